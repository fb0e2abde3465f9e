/- store: the blocks of a write are laid. store: the units that a store tells. store: what is answered where no such unit is. store: too long, too many, out of the unit. store: a Write out of the unit, odd, or too long. -/
import Derived.Test.YtglfjlbhjaemgaaGreatDoorPa36
namespace Go.Proofs.YtglfjlbhjaemgaaGreatDoor
open Go.RowKit
open Ext (Ex Exts exV ExtsF textX)
def LyAt (w : World) (S : Nat → Prop) (s p q n : Nat) (x : St) (j : Jn) (st : Sto) (lba : Nat) (t : ByteArray) (l : List Ex) (i : Value) (v : World) : Prop :=
  ∃ (k : Nat) (S' : Nat → Prop) (y : St), i = .int .i64 k ∧ k ≤ l.length ∧ SD v S' s p q n y j st ∧ Only S w v ∧ Grew S w S' ∧ layX y lba t (l.drop k) = layX x lba t l ∧ y.ops + (l.length - k) * 4096 ≤ 1000000000000
theorem layX_cons (x : St) (lba : Nat) (t : ByteArray) (L B a : Nat) (l : List Ex) : layX x lba t (⟨L, B, a⟩ :: l) = if (x.put a (t.extract ((L - lba) * 512) ((L - lba) * 512 + B * 512)) B).2 then layX (x.put a (t.extract ((L - lba) * 512) ((L - lba) * 512 + B * 512)) B).1 lba t l else ((x.put a (t.extract ((L - lba) * 512) ((L - lba) * 512 + B * 512)) B).1, false) := rfl
set_option maxRecDepth 100000 in
set_option maxHeartbeats 2000000 in
theorem lay_any (w : World) {S : Nat → Prop} {s p q n : Nat} {x : St} {j : Jn} {st : Sto} (h : SD w S s p q n x j st) (hb : st.bad = false) (A : Option Addr) (c : Nat) (l : List Ex) (lba : Nat) (t : ByteArray) (he : Exts w A l) (hA : 0 < l.length → ∀ a, A = some a → ¬ S a.block) (hel : ∀ e ∈ l, e.Fits ∧ (lba : Int) ≤ e.l ∧ (e.l - lba + e.b) * 512 ≤ t.size ∧ e.a + e.b ≤ n) (ht : t.size ≤ 140737488355328) (hn : l.length ≤ 100000) (hk : x.ops + l.length * 4096 ≤ 1000000000000) :
    Calls Tryz.prog 69 #[.pointer (some ⟨s, 0, none⟩), .slice A l.length c, .int .i64 (lba : Int), .string t] w fun e w' => e = .returned (.int .i64 (wrCode (layX x lba t l).2)) ∧ SOut S w s p q n (layX x lba t l).1 j ⟨st.l, st.f, st.ch, st.sf, !(layX x lba t l).2⟩ w' := by
  have H := Lib.hid h; have HE := Lib.hid he; have HA := Lib.hid hA; have HEL := Lib.hid hel; have HBD := Lib.hid hb; have HK := Lib.hid hk
  have HT := Lib.hid ht
  clear h he hA hel hb hk ht
  go_enter Tryz.func69, Tryz.ntmps69
  go_wp2_with (fail)
  go_loopw [15] (fun i v => LyAt w S s p q n x j st lba t l i v) (fun i _ => l.length - (intOf i).toNat)
  case atStart => exact ⟨0, S, x, rfl, Nat.zero_le _, H.out, Only.refl _ _, Grew.refl _ _, by rw [List.drop_zero], HK.out⟩
  case round =>
    obtain ⟨k, S1, y, rfl, hk, hsd, ho, hg, hly, hops⟩ := hrel
    have HSD := Lib.hid hsd; have HO := Lib.hid ho; have HG := Lib.hid hg; have HLY := Lib.hid hly; have HOPS := Lib.hid hops
    clear hsd ho hg hly hops
    generalize wr = W at *
    obtain ⟨lv, sv, hkk, hs⟩ := HSD.out.cells
    by_cases hlt : k < l.length
    · have hki : (k : Int) < l.length := by omega
      have heW : Exts W A l := HE.out.kept fun hn a ha => HO.out.block a.block (HE.out.lt hn a ha) (HA.out hn a ha)
      obtain ⟨b, o, e, rfl, hat, wf, c0, c1, c2⟩ := heW.at_ hlt
      obtain ⟨hf, hl1, hsz, han⟩ := HEL.out e (List.mem_of_getElem? hat)
      unfold Ex.Fits at hf
      obtain ⟨el, eb, ea⟩ := e
      simp only at hf hl1 hsz han c0 c1 c2
      obtain ⟨L, rfl⟩ := Int.eq_ofNat_of_zero_le hf.1
      obtain ⟨B, rfl⟩ := Int.eq_ofNat_of_zero_le (show 0 ≤ eb by omega)
      obtain ⟨a, rfl⟩ := Int.eq_ofNat_of_zero_le hf.2.1
      have hdr : l.drop k = ⟨(L : Int), (B : Int), (a : Int)⟩ :: l.drop (k + 1) := by
        rw [List.drop_eq_getElem_cons hlt]
        rw [List.getElem?_eq_getElem hlt] at hat
        rw [Option.some.inj hat]
      have hly := HLY.out
      rw [hdr, layX_cons] at hly
      obtain ⟨Q, hQ⟩ : ∃ Q, L = lba + Q := ⟨L - lba, by omega⟩
      rw [show L - lba = Q by omega] at hly
      obtain ⟨D, hD⟩ : ∃ D, D = Q * 512 := ⟨_, rfl⟩
      obtain ⟨M, hM⟩ : ∃ M, M = B * 512 := ⟨_, rfl⟩
      obtain ⟨E, hE⟩ : ∃ E, E = D + M := ⟨_, rfl⟩
      rw [← hD, ← hM, ← hE] at hly
      have hT := HT.out
      have hw1 : IntKind.i64.wrap ((L : Int) - (lba : Int)) = (Q : Int) := by rw [i64w _ (by omega)]; omega
      have hw2 : IntKind.i64.wrap ((Q : Int) * 512) = (D : Int) := by rw [i64w _ (by omega)]; omega
      have hw3 : IntKind.i64.wrap ((B : Int) * 512) = (M : Int) := by rw [i64w _ (by omega)]; omega
      have hw4 : IntKind.i64.wrap ((D : Int) + (M : Int)) = (E : Int) := by rw [i64w _ (by omega)]; omega
      have hwk : IntKind.i64.wrap ((k : Int) + 1) = ((k + 1 : Nat) : Int) := by rw [i64w _ (by omega)]; omega
      have g0 : (D : Int) ≤ (E : Int) := by omega
      have g1 : (E : Int) ≤ (t.size : Int) := by omega
      have g2 : (0 : Int) ≤ (D : Int) := by omega
      have hxs : (t.extract D E).size = B * 512 := by rw [ByteArray.size_extract]; omega
      have hops := HOPS.out
      have hmul : (l.length - k) * 4096 = (l.length - (k + 1)) * 4096 + 4096 := by omega
      have hpo := put_ops y a B (t.extract D E)
      have HOP2 := Lib.hid (show (y.put a (t.extract D E) B).1.ops + (l.length - (k + 1)) * 4096 ≤ 1000000000000 by omega)
      have HPUT := Lib.hid (fun v (hv : Below W.heap.size W v) => sput_any v (HSD.out.below hv) a B (t.extract D E) hxs (by omega) (by omega))
      obtain ⟨u, hu⟩ : ∃ u, t.extract D E = u := ⟨_, rfl⟩
      rw [hu] at hly HOP2 HPUT
      obtain ⟨r, hr⟩ : ∃ r, y.put a u B = r := ⟨_, rfl⟩
      rw [hr] at hly HOP2 HPUT
      have HLY2 := Lib.hid hly
      obtain ⟨hnb, hb1⟩ := one_alloc W #[.int .i64 (L : Int), .int .i64 (B : Int), .int .i64 (a : Int)] 158 _ rfl
      obtain ⟨W1, hW1⟩ : ∃ W1, W1 = W.alloc (.cells #[.int .i64 (L : Int), .int .i64 (B : Int), .int .i64 (a : Int)] 158) := ⟨_, rfl⟩
      have HW1 := Lib.hid hW1
      rw [← hW1] at hb1 hnb
      have HNB := Lib.hid hnb
      have HBW := Lib.hid hb1
      clear hat hf hl1 hsz han wf hdr hly hops hmul hpo hxs hr hQ hD hM hE hT hnb hb1 hW1 heW
      go_upto_region 5 with (fail)
      rw [← HW1.out]
      have hs0 : W.cell? ⟨s, 0, none⟩ = some (.pointer (some ⟨p, 0, none⟩)) := (hkk.cell 0).trans rfl
      have k0 : W1.cell? ⟨s, 0, none⟩ = some (.pointer (some ⟨p, 0, none⟩)) := (HBW.out.cell (World.block_lt_of_cell? _ _ hs0)).trans hs0
      have k1 : W1.cell? ⟨W.heap.size, 1, none⟩ = some (.int .i64 (B : Int)) := (HNB.out.cell 1).trans rfl
      have k2 : W1.cell? ⟨W.heap.size, 2, none⟩ = some (.int .i64 (a : Int)) := (HNB.out.cell 2).trans rfl
      have BD := Lib.hid (HBW.out.drew)
      clear hs0 hkk HNB c0 c1 c2 HW1
      go_region_held3 (fun v => v.cell? ⟨s, 0, none⟩ = some (.pointer (some ⟨p, 0, none⟩)) ∧ v.cell? ⟨W.heap.size, 1, none⟩ = some (.int .i64 (B : Int)) ∧ v.cell? ⟨W.heap.size, 2, none⟩ = some (.int .i64 (a : Int))) (first | exact ⟨k0, k1, k2⟩ | exact ⟨e0, e1, e2⟩) (first
        | (go_at_call 123; refine (HPUT.out _ BD.out).mono ?_; rintro e w2 ⟨rfl, S2, hsd2, ho2, hg2⟩
           have hn1 : ¬ S1 W.heap.size := fun hh => absurd (HSD.out.lt _ hh) (Nat.lt_irrefl _)
           have e0 : w2.cell? ⟨s, 0, none⟩ = some (.pointer (some ⟨p, 0, none⟩)) := by obtain ⟨lv2, sv2, hk2, _⟩ := hsd2.cells; exact (hk2.cell 0).trans rfl
           have e1 := ho2.cell k1 hn1
           have e2 := ho2.cell k2 hn1
           clear hn1
           have HOv := HO.out.below BD.out
           have HSD2 := Lib.hid hsd2; have HO2 := Lib.hid (HOv.go HG.out ho2); have HG2 := Lib.hid (HG.out.trans hg2 HOv.size)
           clear HOv
           clear hsd2 ho2 hg2)
        | fail)
      all_goals (
        clear k0 k1 k2 e0 e1 e2 BD HPUT
        cases hrb : r.2 with
        | true =>
          rw [hrb, if_pos rfl] at HLY2
          rw [show wrCode true = 0 from rfl]
          clear hrb
          go_wp2_with (fail)
          exact ⟨⟨k + 1, S2, r.1, rfl, hlt, HSD2.out, HO2.out, HG2.out, HLY2.out, HOP2.out⟩, by simp only [intOf]; omega⟩
        | false =>
          rw [hrb, if_neg (by decide)] at HLY2
          have HN := Lib.hid (note_wr w2 HSD2.out HBD.out false)
          rw [show wrCode false = 41 from rfl] at HN ⊢
          clear hrb
          go_wp2_with (fail)
          refine HN.out.mono ?_; rintro e w3 ⟨rfl, hs3⟩
          have HS3 := Lib.hid (SOut.trans HO2.out HG2.out hs3)
          clear hs3
          go_wp2_with (fail)
          go_ret
          rw [← HLY2.out]
          exact ⟨rfl, HS3.out⟩)
    · have hke : k = l.length := by omega
      subst hke
      have hkk2 : ¬ (l.length : Int) < l.length := by omega
      have hly := HLY.out
      rw [List.drop_length] at hly
      have HLY2 := Lib.hid (show y.flsh = layX x lba t l from hly)
      have k0 : W.cell? ⟨s, 0, none⟩ = some (.pointer (some ⟨p, 0, none⟩)) := (hkk.cell 0).trans rfl
      have HFL := Lib.hid (sflsh_any W HSD.out (by have := HOPS.out; omega))
      obtain ⟨r, hr⟩ : ∃ r, y.flsh = r := ⟨_, rfl⟩
      rw [hr] at HLY2 HFL
      clear hkk hly hr hlt hk
      go_wp2_with (fail)
      refine HFL.out.mono ?_; rintro e w2 ⟨rfl, S2, hsd2, ho2, hg2⟩
      have HSD2 := Lib.hid hsd2; have HO2 := Lib.hid (HO.out.go HG.out ho2); have HG2 := Lib.hid (HG.out.trans hg2 HO.out.size)
      have HN := Lib.hid (note_wr w2 hsd2 HBD.out r.2)
      clear hsd2 ho2 hg2
      go_wp2_with (fail)
      refine HN.out.mono ?_; rintro e w3 ⟨rfl, hs3⟩
      have HS3 := Lib.hid (SOut.trans HO2.out HG2.out hs3)
      clear hs3
      go_wp2_with (fail)
      go_ret
      rw [← HLY2.out]
      exact ⟨rfl, HS3.out⟩
open Go.RowKit
open Ext (Ex Exts exV ExtsF textX)
/-- The first k units are told. -/
structure Told (l : List Tb) (k : Nat) (cs : Array Value) : Prop where
  size : cs.size = l.length * 2
  done : ∀ j t, j < k → l[j]? = some t → cs[j * 2]? = some (.int .i64 t.n) ∧ cs[j * 2 + 1]? = some (.string t.id)
theorem Told.step {l : List Tb} {k : Nat} {cs : Array Value} {t : Tb} (h : Told l k cs) (hk : k < l.length) (ht : l[k]? = some t) : Told l (k + 1) ((cs.setIfInBounds (k * 2) (.int .i64 t.n)).setIfInBounds (k * 2 + 1) (.string t.id)) := by
  have hz := h.size
  refine ⟨by simp [hz], fun j v hj hv => ?_⟩
  by_cases e : j = k
  · subst e
    rw [ht] at hv
    obtain rfl := Option.some.inj hv
    have a0 : j * 2 < cs.size := by omega
    have a1 : j * 2 + 1 < cs.size := by omega
    refine ⟨?_, ?_⟩ <;> simp [a0, a1]
  · obtain ⟨c0, c1⟩ := h.done j v (by omega) hv
    exact ⟨by rw [set_far (by omega), set_far (by omega)]; exact c0, by rw [set_far (by omega), set_far (by omega)]; exact c1⟩
theorem infoUn : (Tryz.prog.info? 27).map (fun i => (i.zero, i.size, i.bytes)) = some (some (.agg #[.int .i64 0, .string ⟨#[]⟩]), 2, 24) := by kernel_rfl
theorem make_uns (l : List Tb) (w : World) (hn : l.length ≤ 4096) : ∃ cs, (Instr.makeSlice 28 (.int .i64 (l.length : Nat)) (.int .i64 (l.length : Nat))).run Tryz.prog w = .ok (.slice (some ⟨w.heap.size, 0, none⟩) l.length l.length) (w.alloc (.cells cs 27)) ∧ Told l 0 cs := by
  obtain ⟨i0, hi0, hz0, hz1, hz2⟩ := info_parts infoUn
  have := run_make (P := Tryz.prog) w 28 27 i0 _ Tryz.underlying28 hi0 hz0 .i64 .i64 (l.length : Nat) (l.length : Nat) (by omega) (by omega) (by rw [hz2]; omega) (by omega)
  refine ⟨_, this, ?_, fun j _ hj => absurd hj (by omega)⟩
  rw [hz1]
  simp [madeCells]
set_option maxRecDepth 100000 in
set_option maxHeartbeats 2000000 in
theorem units_any (w : World) {S : Nat → Prop} {s p q n : Nat} {x : St} {j : Jn} {st : Sto} (h : Has w S s p q n x j st) (hn : st.l.length ≤ 8) (hid : ∀ t ∈ st.l, t.id.size ≤ 16) :
    Calls Tryz.prog 28 #[.pointer (some ⟨s, 0, none⟩)] w fun e w' => ∃ g, e = .returned (.slice (some ⟨g, 0, none⟩) st.l.length st.l.length) ∧ Uns w' (some ⟨g, 0, none⟩) (st.l.map fun t => (t.n, t.id)) ∧ SOut S w s p q n x j st w' ∧ w.heap.size ≤ g := by
  have HT := Lib.hid (tables_any w h)
  have HD := Lib.hid (fun v T (hh : SD v T s p q n x j st) => tables_done v hh)
  have HMK := Lib.hid (fun v => make_uns st.l v (by omega))
  have HID := Lib.hid hid
  have HKP := Lib.hid (fun v T (hh : SD v T s p q n x j st) v' (hb : Below v.heap.size v v') => hh.below hb)
  obtain ⟨l, hl⟩ : ∃ l, st.l = l := ⟨_, rfl⟩
  rw [hl] at HT HD HMK HID hn ⊢
  clear h hid hl
  go_enter Tryz.func28, Tryz.ntmps28
  go_wp2_with (fail)
  refine HT.out.mono ?_; rintro e w1 ⟨b, o, c, S1, rfl, hsd, htb, ho, hg⟩
  obtain ⟨cs, hmk, hto⟩ := HMK.out w1
  have HTO := Lib.hid hto; have HSD := Lib.hid hsd; have HO := Lib.hid ho; have HG := Lib.hid hg
  clear hto hsd htb ho hg HT
  go_wp2_with (fail)
  have HK0 := Lib.hid (Blk.new w1 27 cs)
  have HBA := Lib.hid ((Below.refl w1.heap.size w1).alloc (Nat.le_refl _) (.cells cs 27))
  clear hmk
  generalize w1.alloc (.cells cs 27) = w0 at *
  refine (HD.out w0 S1 (HKP.out _ _ HSD.out _ HBA.out)).mono ?_; rintro e w2 ⟨b, o, c, rfl, htb, rfl⟩
  have HTB := Lib.hid htb
  clear htb HD
  go_wp2_with (fail)
  go_loopw [13] (fun i v => ∃ (k : Nat) (cs : Array Value), i = .int .i64 k ∧ k ≤ l.length ∧ Blk v w1.heap.size 27 cs ∧ Told l k cs ∧ Below w1.heap.size w1 v ) (fun i _ => l.length - (intOf i).toNat)
  case atStart => exact ⟨0, cs, rfl, Nat.zero_le _, HK0.out, HTO.out, HBA.out⟩
  case round =>
    obtain ⟨k, cs, rfl, hk, hbk, hm, hb⟩ := hrel
    have HK := Lib.hid hbk; have HM := Lib.hid hm; have HB := Lib.hid hb
    clear hbk hm hb HK0 HTO
    generalize wr = W at *
    by_cases hlt : k < l.length
    · have hki : (k : Int) < l.length := by omega
      have htw : Tbs W S1 (some ⟨b, o, none⟩) l := HTB.out.kept fun i hi => (HB.out.block i (HSD.out.lt i hi)).trans (HBA.out.block i (HSD.out.lt i hi)).symm
      obtain ⟨b2, o2, t, E, ce, hbo, hat, c0, c1, c2, c3, _, _⟩ := htw.at_ hlt
      obtain ⟨rfl, rfl⟩ : b = b2 ∧ o = o2 := by simpa using hbo
      have HST := Lib.hid (HM.out.step hlt hat)
      have hz := HM.out.size
      have hti := HID.out t (List.mem_of_getElem? hat)
      obtain ⟨hnb, hb1⟩ := one_alloc W #[.int .i64 t.n, .string t.id, .string t.rc, .slice E t.ex.length ce] 140 _ rfl
      obtain ⟨W1, hW1⟩ : ∃ W1, W1 = W.alloc (.cells #[.int .i64 t.n, .string t.id, .string t.rc, .slice E t.ex.length ce] 140) := ⟨_, rfl⟩
      have HW1 := Lib.hid hW1
      rw [← hW1] at hb1 hnb
      have HNB := Lib.hid hnb
      have HBW := Lib.hid hb1
      have HKW := Lib.hid (HK.out.below hb1 HK.out.lt)
      have HCL := Lib.hid (fun v => clone_any t.id v (by omega))
      have hz2 : k * 2 + 1 < cs.size := by omega
      have hne : ¬ W.heap.size = w1.heap.size := by have := HK.out.lt; omega
      clear hat hnb hb1 hW1 htw hbo hz hti
      go_upto_region 5 with (fail)
      rw [← HW1.out]
      have k0 : W1.cell? ⟨W.heap.size, 0, none⟩ = some (.int .i64 t.n) := (HNB.out.cell 0).trans rfl
      have k1 : W1.cell? ⟨W.heap.size, 1, none⟩ = some (.string t.id) := (HNB.out.cell 1).trans rfl
      have BD := Lib.hid (HB.out.trans ((HBW.out.mono HB.out.size).drew))
      clear c0 c1 c2 c3 HNB HW1 HBW HK
      go_region_held3 (fun v => v.cell? ⟨W.heap.size, 0, none⟩ = some (.int .i64 t.n) ∧ v.cell? ⟨W.heap.size, 1, none⟩ = some (.string t.id)) (first | exact ⟨k0, k1⟩ | exact ⟨e0, e1⟩ | exact ⟨m0, m1⟩) (first
        | (go_at_call 83; refine (HCL.out _).mono ?_; rintro e w4 ⟨rfl, hb4⟩
           have e0 := (hb4.cell (p := ⟨W.heap.size, 0, none⟩) (World.block_lt_of_cell? _ _ k0)).trans k0
           have e1 := (hb4.cell (p := ⟨W.heap.size, 1, none⟩) (World.block_lt_of_cell? _ _ k1)).trans k1
           have HK4 := Lib.hid (HKW.out.drew.below hb4 HKW.out.drew.lt)
           have B4 := Lib.hid (BD.out.trans (hb4.mono BD.out.size))
           have d0 : w4.cell? ⟨w1.heap.size, k * 2, none⟩ = some cs[k * 2] := (HK4.out.cell _).trans (Array.getElem?_eq_getElem (by omega))
           have d1 : w4.cell? ⟨w1.heap.size, k * 2 + 1, none⟩ = some cs[k * 2 + 1] := (HK4.out.cell _).trans (Array.getElem?_eq_getElem (by omega))
           generalize cs[k * 2] = v0 at d0
           generalize cs[k * 2 + 1] = v1 at d1
           have f0 := HK4.out.free (k * 2)
           have f1 := HK4.out.free (k * 2 + 1)
           have HKA := Lib.hid ((HK4.out.put (k * 2) (.int .i64 t.n)).put (k * 2 + 1) (.string t.id))
           have HBB := Lib.hid ((B4.out.setCell (p := ⟨w1.heap.size, k * 2, none⟩) (Nat.le_refl _) (.int .i64 t.n)).setCell (p := ⟨w1.heap.size, k * 2 + 1, none⟩) (Nat.le_refl _) (.string t.id))
           have m0 := ((only_put w4 w1.heap.size (k * 2) (.int .i64 t.n)).put (k * 2 + 1) (.string t.id)).cell e0 hne
           have m1 := ((only_put w4 w1.heap.size (k * 2) (.int .i64 t.n)).put (k * 2 + 1) (.string t.id)).cell e1 hne
           clear hb4)
        | fail)
      all_goals (
        clear k0 k1 e0 e1 m0 m1 d0 d1 f0 f1 HK4 B4
        go_wp2_with (fail)
        go_roundw
        case rel => exact ⟨k + 1, _, by go_num, by omega, HKA.out, HST.out, HBB.out⟩
        case measure => simp [intOf]; omega)
    · obtain rfl : k = l.length := by omega
      have hge : ¬ (l.length : Int) < l.length := by omega
      go_wp2_with (fail)
      go_ret
      refine ⟨w1.heap.size, rfl, fun _ => ⟨w1.heap.size, 0, rfl, fun j u hj => ?_⟩, SOut.trans HO.out HG.out (SOut.of_below HSD.out HB.out), HO.out.size⟩
      rw [List.getElem?_map] at hj
      cases hu : l[j]? with
      | none => rw [hu] at hj; cases hj
      | some u =>
        rw [hu] at hj
        obtain rfl := Option.some.inj hj
        have hjl := (List.getElem?_eq_some_iff.1 hu).1
        obtain ⟨a0, a1⟩ := HM.out.done j u hjl hu
        rw [Nat.zero_add]
        exact ⟨(HK.out.cell _).trans a0, (HK.out.cell _).trans a1⟩
open Go.RowKit
open Ext (Ex Exts exV ExtsF textX)
theorem hnot_false (w : World) : (Op.unary .not (.bool false)).run Tryz.prog w = .ok (.bool true) w := rfl
set_option maxRecDepth 100000 in
set_option maxHeartbeats 1000000 in
theorem write_lun (w : World) {S : Nat → Prop} {s p q n : Nat} {x : St} {j : Jn} {st : Sto} (h : Has w S s p q n x j st) (lun : Int) (hl : lun < 0 ∨ (st.l.length : Int) ≤ lun) (lba : Int) (t : ByteArray) :
    Calls Tryz.prog 18 #[.pointer (some ⟨s, 0, none⟩), .int .i64 lun, .int .i64 lba, .string t] w fun e w' => e = .returned (.int .i64 80) ∧ SOut S w s p q n x j st w' := by
  have HT := Lib.hid (table_no w h lun hl)
  clear h hl
  unfold zTb at HT
  go_enter Tryz.func18, Tryz.ntmps18
  go_wp2_with (fail)
  refine HT.out.mono ?_; rintro e w1 ⟨S1, rfl, hsd, ho, hg⟩
  obtain ⟨_, hb1⟩ := one_alloc w1 #[.int .i64 0, .string ⟨#[]⟩, .string ⟨#[]⟩, .slice none 0 0] 140 _ rfl
  have R := Lib.hid (SOut.trans ho hg (SOut.of_below hsd hb1))
  have hnt := hnot_false (w1.alloc (.cells #[.int .i64 0, .string ⟨#[]⟩, .string ⟨#[]⟩, .slice none 0 0] 140))
  clear hsd ho hg hb1 HT
  go_wp2_with (fail)
  go_ret
  exact ⟨rfl, R.out⟩
set_option maxRecDepth 100000 in
set_option maxHeartbeats 1000000 in
theorem clear_lun (w : World) {S : Nat → Prop} {s p q n : Nat} {x : St} {j : Jn} {st : Sto} (h : Has w S s p q n x j st) (lun : Int) (hl : lun < 0 ∨ (st.l.length : Int) ≤ lun) (A : Option Addr) (k c : Nat) :
    Calls Tryz.prog 27 #[.pointer (some ⟨s, 0, none⟩), .int .i64 lun, .slice A k c] w fun e w' => e = .returned (.int .i64 80) ∧ SOut S w s p q n x j st w' := by
  have HT := Lib.hid (table_no w h lun hl)
  clear h hl
  unfold zTb at HT
  go_enter Tryz.func27, Tryz.ntmps27
  go_wp2_with (fail)
  refine HT.out.mono ?_; rintro e w1 ⟨S1, rfl, hsd, ho, hg⟩
  obtain ⟨_, hb1⟩ := one_alloc w1 #[.int .i64 0, .string ⟨#[]⟩, .string ⟨#[]⟩, .slice none 0 0] 140 _ rfl
  have R := Lib.hid (SOut.trans ho hg (SOut.of_below hsd hb1))
  have hnt := hnot_false (w1.alloc (.cells #[.int .i64 0, .string ⟨#[]⟩, .string ⟨#[]⟩, .slice none 0 0] 140))
  clear hsd ho hg hb1 HT
  go_wp2_with (fail)
  go_ret
  exact ⟨rfl, R.out⟩
set_option maxRecDepth 100000 in
set_option maxHeartbeats 1000000 in
theorem record_lun (w : World) {S : Nat → Prop} {s p q n : Nat} {x : St} {j : Jn} {st : Sto} (h : Has w S s p q n x j st) (lun : Int) (hl : lun < 0 ∨ (st.l.length : Int) ≤ lun) (t : ByteArray) :
    Calls Tryz.prog 26 #[.pointer (some ⟨s, 0, none⟩), .int .i64 lun, .string t] w fun e w' => e = .returned (.int .i64 80) ∧ SOut S w s p q n x j st w' := by
  have HT := Lib.hid (table_no w h lun hl)
  clear h hl
  unfold zTb at HT
  go_enter Tryz.func26, Tryz.ntmps26
  go_wp2_with (fail)
  refine HT.out.mono ?_; rintro e w1 ⟨S1, rfl, hsd, ho, hg⟩
  obtain ⟨_, hb1⟩ := one_alloc w1 #[.int .i64 0, .string ⟨#[]⟩, .string ⟨#[]⟩, .slice none 0 0] 140 _ rfl
  have R := Lib.hid (SOut.trans ho hg (SOut.of_below hsd hb1))
  have hnt := hnot_false (w1.alloc (.cells #[.int .i64 0, .string ⟨#[]⟩, .string ⟨#[]⟩, .slice none 0 0] 140))
  clear hsd ho hg hb1 HT
  go_wp2_with (fail)
  go_ret
  exact ⟨rfl, R.out⟩
open Go.RowKit
open Ext (Ex Exts exV ExtsF textX)
theorem hnot_true (w : World) : (Op.unary .not (.bool true)).run Tryz.prog w = .ok (.bool false) w := rfl
set_option maxRecDepth 100000 in
set_option maxHeartbeats 1000000 in
theorem record_long (w : World) {S : Nat → Prop} {s p q n : Nat} {x : St} {j : Jn} {st : Sto} (h : Has w S s p q n x j st) (lun : Nat) (t : Tb) (ht : st.l[lun]? = some t) (z : ByteArray) (hz : 2048 < z.size) :
    Calls Tryz.prog 26 #[.pointer (some ⟨s, 0, none⟩), .int .i64 (lun : Int), .string z] w fun e w' => e = .returned (.int .i64 2) ∧ SOut S w s p q n x j st w' := by
  have hzz : (2048 : Int) < z.size := by omega
  have HT := Lib.hid (table_ok w h lun t ht)
  clear h ht
  unfold tbV at HT
  go_enter Tryz.func26, Tryz.ntmps26
  go_wp2_with (fail)
  refine HT.out.mono ?_; rintro e w1 ⟨E, c, S1, rfl, hsd, _, _, ho, hg⟩
  obtain ⟨hnb, hb1⟩ := one_alloc w1 #[.int .i64 t.n, .string t.id, .string t.rc, .slice E t.ex.length c] 140 _ rfl
  have R := Lib.hid (SOut.trans ho hg (SOut.of_below hsd hb1))
  have hnt := hnot_true (w1.alloc (.cells #[.int .i64 t.n, .string t.id, .string t.rc, .slice E t.ex.length c] 140))
  clear hsd ho hg hb1 hnb HT
  go_wp2_with (fail)
  go_ret
  exact ⟨rfl, R.out⟩
set_option maxRecDepth 100000 in
set_option maxHeartbeats 1000000 in
theorem clear_many (w : World) {S : Nat → Prop} {s p q n : Nat} {x : St} {j : Jn} {st : Sto} (h : Has w S s p q n x j st) (lun : Nat) (t : Tb) (ht : st.l[lun]? = some t) (A : Option Addr) (k k2 : Nat) (hz : 16 < k) :
    Calls Tryz.prog 27 #[.pointer (some ⟨s, 0, none⟩), .int .i64 (lun : Int), .slice A k k2] w fun e w' => e = .returned (.int .i64 3) ∧ SOut S w s p q n x j st w' := by
  have hzz : (16 : Int) < k := by omega
  have HT := Lib.hid (table_ok w h lun t ht)
  clear h ht
  unfold tbV at HT
  go_enter Tryz.func27, Tryz.ntmps27
  go_wp2_with (fail)
  refine HT.out.mono ?_; rintro e w1 ⟨E, c, S1, rfl, hsd, _, _, ho, hg⟩
  obtain ⟨hnb, hb1⟩ := one_alloc w1 #[.int .i64 t.n, .string t.id, .string t.rc, .slice E t.ex.length c] 140 _ rfl
  have R := Lib.hid (SOut.trans ho hg (SOut.of_below hsd hb1))
  have hnt := hnot_true (w1.alloc (.cells #[.int .i64 t.n, .string t.id, .string t.rc, .slice E t.ex.length c] 140))
  clear hsd ho hg hb1 hnb HT
  go_wp2_with (fail)
  go_ret
  exact ⟨rfl, R.out⟩
open Go.RowKit
open Ext (Ex Exts exV ExtsF textX)
set_option maxRecDepth 100000 in
set_option maxHeartbeats 1000000 in
theorem write_range (w : World) {S : Nat → Prop} {s p q n : Nat} {x : St} {j : Jn} {st : Sto} (h : Has w S s p q n x j st) (lun : Nat) (t : Tb) (ht : st.l[lun]? = some t) (lba : Int) (z : ByteArray) (hzz : z.size ≤ 140737488355328) (hz : z.size % 512 = 0) (hm : z.size / 512 ≤ 64) (hn : 0 ≤ t.n ∧ t.n ≤ 1000000) (hl : -9223372036854775808 ≤ lba ∧ lba ≤ 9223372036854775807) (hzb : hasB t.n lba (z.size / 512 : Nat) = false) :
    Calls Tryz.prog 18 #[.pointer (some ⟨s, 0, none⟩), .int .i64 (lun : Int), .int .i64 lba, .string z] w fun e w' => e = .returned (.int .i64 81) ∧ SOut S w s p q n x j st w' := by
  have HT := Lib.hid (table_ok w h lun t ht)
  have hz0 : ((z.size % 512 : Nat) : Int) = 0 := by omega
  have hm1 : ¬ (64 : Int) < ((z.size / 512 : Nat) : Int) := by omega
  have HH := Lib.hid (fun A c v => (hzb ▸ has_any t A c lba (z.size / 512 : Nat) v hn.1 hn.2 hl : Calls Tryz.prog 67 #[tbV t A c, .int .i64 lba, .int .i64 ((z.size / 512 : Nat) : Int)] v fun e w' => e = .returned (.bool false) ∧ Below v.heap.size v w'))
  unfold tbV at HH
  clear hzb
  obtain ⟨m, hm⟩ : ∃ m, z.size / 512 = m := ⟨_, rfl⟩
  obtain ⟨r, hr⟩ : ∃ r, z.size % 512 = r := ⟨_, rfl⟩
  rw [hr] at hz0
  try rw [hm] at hm1
  try rw [hm] at HH
  have ht1 : (z.size : Int) / 512 = (m : Int) := by omega
  have ht2 : (z.size : Int) % 512 = (r : Int) := by omega
  have hw1 : IntKind.i64.wrap (m : Int) = (m : Int) := i64w _ (by omega)
  have hw2 : IntKind.i64.wrap (r : Int) = (r : Int) := i64w _ (by omega)
  clear h ht hm hr
  unfold tbV at HT
  go_enter Tryz.func18, Tryz.ntmps18
  go_wp2_with (fail)
  refine HT.out.mono ?_; rintro e w1 ⟨E, c, S1, rfl, hsd, _, _, ho, hg⟩
  obtain ⟨hnb, hb1⟩ := one_alloc w1 #[.int .i64 t.n, .string t.id, .string t.rc, .slice E t.ex.length c] 140 _ rfl
  have HB := Lib.hid hb1; have HNB := Lib.hid hnb
  have HSD := Lib.hid hsd; have HO := Lib.hid ho; have HG := Lib.hid hg
  have hnt := hnot_true (w1.alloc (.cells #[.int .i64 t.n, .string t.id, .string t.rc, .slice E t.ex.length c] 140))
  clear hsd ho hg hb1 hnb HT
  go_wp2_with (fail)
  generalize (w1.alloc (.cells #[.int .i64 t.n, .string t.id, .string t.rc, .slice E t.ex.length c] 140)) = w0 at *
  refine (HH.out E c _).mono ?_; rintro e w2 ⟨rfl, hb2⟩
  have R := Lib.hid (SOut.trans HO.out HG.out (SOut.of_below HSD.out (HB.out.trans (hb2.mono HB.out.size))))
  have hn2 := hnot_false w2
  clear hb2 hnt
  go_wp2_with (fail)
  go_ret
  exact ⟨rfl, R.out⟩
end Go.Proofs.YtglfjlbhjaemgaaGreatDoor
