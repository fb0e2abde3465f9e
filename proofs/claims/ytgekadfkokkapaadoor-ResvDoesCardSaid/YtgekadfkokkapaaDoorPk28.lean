/- The document's changes: who asks is registered with another key. The document's register, reserve and release, their paths joined. -/
import Derived.Test.YtgekadfkokkapaaDoorPk25
import Derived.Test.YtgekadfkokkapaaDoorPk24
import Derived.Test.YtgekadfkokkapaaDoorPk26
import Derived.Test.YtgekadfkokkapaaDoorPk27
namespace Go.Proofs.YtgekadfkokkapaaDoor
open Go.RowKit
/-- A host's registrations given another key, up to a place. -/
def kyF (m : Cm) : Rg → Rg := fun r => if eqS r.h m.ho = true then ⟨r.h, m.nk⟩ else r
def kyL (l : List Rg) (m : Cm) (k : Nat) : List Rg := (l.take k).map (kyF m) ++ l.drop k
theorem kyL_length (l : List Rg) (m : Cm) (k : Nat) : (kyL l m k).length = l.length := by
  unfold kyL
  rw [List.length_append, List.length_map, List.length_take, List.length_drop]
  omega
theorem kyL_zero (l : List Rg) (m : Cm) : kyL l m 0 = l := by unfold kyL; simp
theorem kyL_at (l : List Rg) (m : Cm) (k : Nat) (x : Rg) (hx : l[k]? = some x) : (kyL l m k)[k]? = some x := by
  have hk := (List.getElem?_eq_some_iff.1 hx).1
  unfold kyL
  rw [List.getElem?_append_right (by rw [List.length_map, List.length_take]; omega), List.length_map, List.length_take, List.getElem?_drop]
  rw [show k + (k - min k l.length) = k by omega]
  exact hx
theorem kyL_succ (l : List Rg) (m : Cm) (k : Nat) (x : Rg) (hx : l[k]? = some x) : kyL l m (k + 1) = (kyL l m k).set k (kyF m x) := by
  obtain ⟨hk, rfl⟩ := List.getElem?_eq_some_iff.1 hx
  unfold kyL
  rw [List.take_succ_eq_append_getElem hk, List.map_append, List.set_append_right _ _ (by rw [List.length_map, List.length_take]; omega), List.length_map, List.length_take, List.append_assoc]
  rw [show k - min k l.length = 0 by omega, List.drop_eq_getElem_cons hk]
  rfl
theorem set_self' {α : Type} {l : List α} {i : Nat} {x : α} (h : l[i]? = some x) : l.set i x = l := by
  apply List.ext_getElem?
  intro j
  by_cases hj : i = j
  · subst hj
    rw [List.getElem?_set_self (List.getElem?_eq_some_iff.1 h).1, h]
  · rw [List.getElem?_set_ne hj]
theorem RdAt.key {n0 nb g : Nat} {w v : World} {c : Nat} {t : Tl} {m : Cm} (h : RdAt n0 nb w v (some ⟨g, 0, none⟩) c t m) (i : Nat) (x : Rg) (hx : t.rs[i]? = some x) (k : Int) :
    RdAt n0 nb w (v.setCell ⟨g, i * 2 + 1, none⟩ (.int .u64 k)) (some ⟨g, 0, none⟩) c { t with rs := t.rs.set i ⟨x.h, k⟩ } m ∧ n0 ≤ g := by
  have hpos : 0 < t.rs.length := Nat.lt_of_le_of_lt (Nat.zero_le _) (List.getElem?_eq_some_iff.1 hx).1
  obtain ⟨g', e, hg, hrow⟩ := RowR.of h.own hpos
  injection e with e; injection e with e1 _; subst e1
  have a1 : nb ≠ g := fun e => own_apart h.own.1 h.box (by decide) (by rw [e]; rfl)
  have a2 : nb + 1 ≠ g := fun e => own_apart h.own.1 h.cmd (by decide) (by rw [e]; rfl)
  have a3 : nb + 2 ≠ g := fun e => own_apart h.own.1 h.res (by decide) (by rw [e]; rfl)
  have hr2 := hrow.putKey i x hx k
  have hb := h.box.far (p := ⟨g, i * 2 + 1, none⟩) a1 (.int .u64 k)
  refine ⟨⟨?_, h.cmd.far (p := ⟨g, i * 2 + 1, none⟩) a2 _, h.res.far (p := ⟨g, i * 2 + 1, none⟩) a3 _, ?_, h.bel.trans (bel_put hg h.lt _ _), h.hn⟩, hg⟩
  · show Blk _ nb 27 #[.slice (some ⟨g, 0, none⟩) (t.rs.set i ⟨x.h, k⟩).length c, .int .i64 t.ty, .string t.ho, .int .u32 t.ge, .bool t.ap]
    rw [List.length_set]
    exact hb
  · exact hr2.own hg fun y hy => by
      rcases List.mem_or_eq_of_mem_set hy with q | q
      · exact h.own.2 y q
      · rw [q]; exact h.own.2 x (List.mem_of_getElem? hx)
/-- What comes of it. -/
def kyT (t : Tl) (m : Cm) : Tl := { t with rs := t.rs.map (kyF m), ge := incG t.ge }
set_option maxRecDepth 100000 in
set_option maxHeartbeats 4000000 in
theorem refReg_key (n0 : Nat) (A : Option Addr) (c : Nat) (t : Tl) (m : Cm) (w : World) (ho : Own w n0 A c t.rs) (hn : n0 ≤ w.heap.size) (hm : t.rs.length ≤ 200) (hgq : m.ig = true ∨ m.ig = false ∧ (m.ke != keyR t.rs m.ho) = false) (hk : (m.nk != 0) = true) (hw : (keyR t.rs m.ho == 0) = false) (hpos : 0 < t.rs.length) (T : Tl) (hT : setAp (kyT t m) m = T) :
    Calls Tryd.prog 39 #[tlV A c t, cmV m] w (RdOut n0 w T ([]) (1)) := by
  have HT := Lib.hid hT
  have HG := Lib.hid hgq
  clear hT hgq
  have R0 := Lib.hid (RdAt.from w A c t m ho hn)
  have HM := Lib.hid (show t.rs.length ≤ maxLen by unfold maxLen; omega)
  have HM2 := Lib.hid hm
  have hnt := not_true
  have hnf := not_false
  obtain ⟨nb, hnb⟩ : ∃ nb, nb = w.heap.size := ⟨_, rfl⟩
  clear ho hn hm
  have HK := Lib.hid (fun v (hl2 : Rgs v A t.rs) => refKey_any A c t m.ho v hl2 HM.out)
  go_enter Tryd.func39, Tryd.ntmps39
  go_upto_region 1 with (fail)
  change Code.wp _ _ _ _ (((w.alloc (.cells (tlC A c t) 27)).alloc (.cells (cmC m) 37)).alloc (.cells tdZ 43))
  generalize ((w.alloc (.cells (tlC A c t) 27)).alloc (.cells (cmC m) 37)).alloc (.cells tdZ 43) = v0 at *
  rw [← hnb] at R0 ⊢
  clear hnb
  have c0 : v0.cell? ⟨nb, 0, none⟩ = some (.slice A t.rs.length c) := R0.out.box.cell 0
  have c1 : v0.cell? ⟨nb, 1, none⟩ = some (.int .i64 t.ty) := R0.out.box.cell 1
  have c2 : v0.cell? ⟨nb, 2, none⟩ = some (.string t.ho) := R0.out.box.cell 2
  have c3 : v0.cell? ⟨nb, 3, none⟩ = some (.int .u32 t.ge) := R0.out.box.cell 3
  have c4 : v0.cell? ⟨nb, 4, none⟩ = some (.bool t.ap) := R0.out.box.cell 4
  have m2 : v0.cell? ⟨nb + 1, 2, none⟩ = some (.string m.ho) := R0.out.cmd.cell 2
  go_wp2_with (fail)
  refine (HK.out _ R0.out.own.rgs).mono ?_; rintro e v1 ⟨rfl, hb⟩
  have R1 := Lib.hid (R0.out.below hb)
  clear c0 c1 c2 c3 c4 m2 hb
  have m8 : v1.cell? ⟨nb + 1, 8, none⟩ = some (.int .u64 m.ke) := R1.out.cmd.cell 8
  rcases HG.out with hg | ⟨hg, hq⟩
  all_goals
   have m12 : v1.cell? ⟨nb + 1, 12, none⟩ = some (.bool m.ig) := R1.out.cmd.cell 12
   rw [hg] at m12
   go_upto_region 5 with (fail)
   change Code.wp _ _ _ _ (v1.alloc (.cells (tdC none 0 zT none 0 [] 1) 43))
   have hal := (Below.refl v1.heap.size v1).alloc (Nat.le_refl _) (.cells (tdC none 0 zT none 0 [] 1) 43)
   have R2 := Lib.hid (R1.out.below hal); have HTD := Lib.hid (Blk.new v1 43 (tdC none 0 zT none 0 [] 1))
   obtain ⟨pt, hpt⟩ : ∃ pt, pt = v1.heap.size := ⟨_, rfl⟩
   rw [← hpt] at HTD ⊢
   have HPT := Lib.hid (show nb + 2 < pt by rw [hpt]; exact R1.out.res.lt)
   clear hal hpt m8 m12
   generalize v1.alloc (.cells (tdC none 0 zT none 0 [] 1) 43) = v2 at *
   have m9 : v2.cell? ⟨nb + 1, 9, none⟩ = some (.int .u64 m.nk) := R2.out.cmd.cell 9
   go_wp2_with (fail)
   clear m9
   obtain ⟨g, hA, _, _⟩ := RowR.of R2.out.own hpos
   subst hA
   go_loopw [7] (fun i wr => ∃ k : Nat, k ≤ t.rs.length ∧ i = .int .i64 k ∧ Hid (RdAt n0 nb w wr (some ⟨g, 0, none⟩) c { t with rs := kyL t.rs m k } m) ∧ Hid (Blk wr pt 43 (tdC none 0 zT none 0 [] 1))) (fun i _ => t.rs.length - (intOf i).toNat)
   case atStart => exact ⟨0, Nat.zero_le _, rfl, Lib.hid (by rw [kyL_zero]; exact R2.out), HTD⟩
   case round =>
     obtain ⟨k, hkl, rfl, HR, HTR⟩ := hrel
     have HM3 := HM2.out
     have c0 : wr.cell? ⟨nb, 0, none⟩ = some (.slice (some ⟨g, 0, none⟩) t.rs.length c) := by rw [← kyL_length t.rs m k]; exact HR.out.box.cell 0
     by_cases hlt : k < t.rs.length
     · have hki : (k : Int) < t.rs.length := by omega
       obtain ⟨x, hx⟩ : ∃ x, t.rs[k]? = some x := ⟨_, List.getElem?_eq_getElem hlt⟩
       have HX := Lib.hid (kyL_at t.rs m k x hx)
       have HS := Lib.hid (kyL_succ t.rs m k x hx)
       obtain ⟨b, o, x', hbe, hx', _, d0, d1⟩ := HR.out.own.rgs.at_ (j := k) (by show k < (kyL t.rs m k).length; rw [kyL_length]; exact hlt)
       obtain rfl : x = x' := Option.some.inj (HX.out.symm.trans hx')
       injection hbe with hbe; injection hbe with hb1 hb2; subst hb1 hb2
       rw [Nat.zero_add] at d0 d1
       have m2 : wr.cell? ⟨nb + 1, 2, none⟩ = some (.string m.ho) := HR.out.cmd.cell 2
       clear hx hx'
       cases he : (x.h.toList == m.ho.toList) with
       | false =>
         have HSS := Lib.hid (show kyL t.rs m (k + 1) = kyL t.rs m k by
           rw [HS.out]
           have : kyF m x = x := by unfold kyF; rw [if_neg (by rw [show eqS x.h m.ho = false from he]; decide)]
           rw [this]
           exact set_self' HX.out)
         go_upto_region 14 with (fail)
         go_quiet (fail)
         go_wp2_with (fail)
         go_roundw
         case rel => exact ⟨k + 1, by omega, by go_num, Lib.hid (by rw [HSS.out]; exact HR.out.below (below_drewN (Below.refl _ _) _)), Lib.hid HTR.out⟩
         case measure => simp [intOf]; omega
       | true =>
         have HSS := Lib.hid (show kyL t.rs m (k + 1) = (kyL t.rs m k).set k ⟨x.h, m.nk⟩ by
           rw [HS.out]
           have : kyF m x = ⟨x.h, m.nk⟩ := by unfold kyF; rw [if_pos (show eqS x.h m.ho = true from he)]
           rw [this])
         go_upto_region 14 with (fail)
         go_quiet (fail)
         have HRn := Lib.hid (HR.out.below (below_drewN (Below.refl _ _) nq)); have HTn := Lib.hid (HTR.out.below (below_drewN (Below.refl _ _) nq) HTR.out.lt)
         clear c0 d0 d1 m2
         generalize wr.drewN nq = wn at *
         have hln := kyL_length t.rs m k
         obtain ⟨g2, e2, hng, hrow⟩ := RowR.of HRn.out.own (by show 0 < (kyL t.rs m k).length; omega)
         injection e2 with e2; injection e2 with e21 _; subst e21
         have c0 : wn.cell? ⟨nb, 0, none⟩ = some (.slice (some ⟨g, 0, none⟩) t.rs.length c) := by rw [← hln]; exact HRn.out.box.cell 0
         have m9 : wn.cell? ⟨nb + 1, 9, none⟩ = some (.int .u64 m.nk) := HRn.out.cmd.cell 9
         have d1 : wn.cell? ⟨g, k * 2 + 1, none⟩ = some (.int .u64 x.k) := (hrow.cells HX.out).2
         have f1 := hrow.free (k * 2 + 1)
         have hgp : pt ≠ g := fun e => own_apart HRn.out.own.1 HTn.out (by decide) (by rw [e]; rfl)
         have HRK := Lib.hid (HRn.out.key k x HX.out m.nk).1
         have HTK := Lib.hid (HTn.out.far (p := ⟨g, k * 2 + 1, none⟩) hgp (.int .u64 m.nk))
         clear hrow hgp hln
         go_wp2_with (fail)
         go_roundw
         case rel => exact ⟨k + 1, by omega, by go_num, Lib.hid (by rw [HSS.out]; exact HRK.out), HTK⟩
         case measure => simp [intOf]; omega
     · obtain rfl : k = t.rs.length := by omega
       have hky : kyL t.rs m t.rs.length = t.rs.map (kyF m) := by unfold kyL; simp
       rw [hky] at HR
       clear hky HTD
       have HTD := Lib.hid HTR.out
       clear HTR HM3
       have c3 : wr.cell? ⟨nb, 3, none⟩ = some (.int .u32 t.ge) := HR.out.box.cell 3
       have f3 := HR.out.box.free 3
       have hinc : IntKind.u32.wrap (t.ge + 1) = incG t.ge := rfl
       go_upto_region 24 with (fail)
       have R5 := Lib.hid (HR.out.put 3 (.int .u32 (incG t.ge)) (t' := kyT t m) rfl rfl)
       have HTD5 := Lib.hid (HTD.out.far (p := ⟨nb, 3, none⟩) (by have := HPT.out; show pt ≠ nb; omega) (.int .u32 (incG t.ge)))
       clear c3 f3 hinc HTD c0
       have HTD := Lib.hid HTD5.out
       generalize wr.setCell ⟨nb, 3, none⟩ (.int .u32 (incG t.ge)) = v5 at *
       have m13 : v5.cell? ⟨nb + 1, 13, none⟩ = some (.int .i64 m.ap) := R5.out.cmd.cell 13
       rcases ap3 m with ⟨h1, h2⟩ | ⟨h1, h2⟩ | ⟨h1, h2⟩
       all_goals
        first
        | have hx : (m.ap == 2) = true := h2
          clear hx
          have c4 : v5.cell? ⟨nb, 4, none⟩ = some (.bool (kyT t m).ap) := R5.out.box.cell 4
          have f4 : v5.frozen? ⟨nb, 4, none⟩ = false := R5.out.box.free 4
          go_upto_region 26 with (fail)
          have RA := Lib.hid (RdAt.as (R5.out.put 4 (.bool true) (t' := { ((kyT t m)) with ap := true }) rfl rfl) ((sa2 h1 h2).symm.trans HT.out))
          have HTA := Lib.hid (HTD.out.far (p := ⟨nb, 4, none⟩) (by have := HPT.out; show pt ≠ nb; omega) (.bool true))
          clear c4 f4 m13
          generalize v5.setCell ⟨nb, 4, none⟩ (.bool true) = va at *
        | have hx : (m.ap == 1) = true := h1
          clear hx
          have c4 : v5.cell? ⟨nb, 4, none⟩ = some (.bool (kyT t m).ap) := R5.out.box.cell 4
          have f4 : v5.frozen? ⟨nb, 4, none⟩ = false := R5.out.box.free 4
          go_upto_region 26 with (fail)
          have RA := Lib.hid (RdAt.as (R5.out.put 4 (.bool false) (t' := { ((kyT t m)) with ap := false }) rfl rfl) ((sa1 h1).symm.trans HT.out))
          have HTA := Lib.hid (HTD.out.far (p := ⟨nb, 4, none⟩) (by have := HPT.out; show pt ≠ nb; omega) (.bool false))
          clear c4 f4 m13
          generalize v5.setCell ⟨nb, 4, none⟩ (.bool false) = va at *
        | go_upto_region 26 with (fail)
          have RA := Lib.hid (RdAt.as (R5.out) ((sa0 h1 h2).symm.trans HT.out))
          have HTA := Lib.hid HTD.out
          clear m13
          generalize hva : v5 = va at *
          clear hva
        have c0 : va.cell? ⟨nb, 0, none⟩ = some (.slice (some ⟨g, 0, none⟩) T.rs.length c) := RA.out.box.cell 0
        have c1 : va.cell? ⟨nb, 1, none⟩ = some (.int .i64 T.ty) := RA.out.box.cell 1
        have c2 : va.cell? ⟨nb, 2, none⟩ = some (.string T.ho) := RA.out.box.cell 2
        have c3 : va.cell? ⟨nb, 3, none⟩ = some (.int .u32 T.ge) := RA.out.box.cell 3
        have c4 : va.cell? ⟨nb, 4, none⟩ = some (.bool T.ap) := RA.out.box.cell 4
        have d0 : va.cell? ⟨pt, 0, none⟩ = some (.slice none 0 0) := HTA.out.cell 0
        have g0 : va.frozen? ⟨pt, 0, none⟩ = false := HTA.out.free 0
        have d1 : va.cell? ⟨pt, 1, none⟩ = some (.int .i64 0) := HTA.out.cell 1
        have g1 : va.frozen? ⟨pt, 1, none⟩ = false := HTA.out.free 1
        have d2 : va.cell? ⟨pt, 2, none⟩ = some (.string ⟨#[]⟩) := HTA.out.cell 2
        have g2 : va.frozen? ⟨pt, 2, none⟩ = false := HTA.out.free 2
        have d3 : va.cell? ⟨pt, 3, none⟩ = some (.int .u32 0) := HTA.out.cell 3
        have g3 : va.frozen? ⟨pt, 3, none⟩ = false := HTA.out.free 3
        have d4 : va.cell? ⟨pt, 4, none⟩ = some (.bool false) := HTA.out.cell 4
        have g4 : va.frozen? ⟨pt, 4, none⟩ = false := HTA.out.free 4
        go_upto_region 27 with (fail)
        obtain ⟨hTB, hTO⟩ := told_put (A := (some ⟨g, 0, none⟩)) (c := c) (t := T) HTA.out _ rfl
        have RB := Lib.hid (RA.out.far HTA.out HPT.out hTO); have HTB := Lib.hid hTB
        clear hTB hTO c0 c1 c2 c3 c4 d0 d1 d2 d3 d4 g0 g1 g2 g3 g4
        generalize ((((va.setCell ⟨pt, 0, none⟩ (.slice (some ⟨g, 0, none⟩) T.rs.length c)).setCell ⟨pt, 1, none⟩ (.int .i64 T.ty)).setCell ⟨pt, 2, none⟩ (.string T.ho)).setCell ⟨pt, 3, none⟩ (.int .u32 T.ge)).setCell ⟨pt, 4, none⟩ (.bool T.ap) = vb at *
        have d0 : vb.cell? ⟨pt, 0, none⟩ = some (.slice (some ⟨g, 0, none⟩) T.rs.length c) := HTB.out.cell 0
        have d1 : vb.cell? ⟨pt, 1, none⟩ = some (.int .i64 T.ty) := HTB.out.cell 1
        have d2 : vb.cell? ⟨pt, 2, none⟩ = some (.string T.ho) := HTB.out.cell 2
        have d3 : vb.cell? ⟨pt, 3, none⟩ = some (.int .u32 T.ge) := HTB.out.cell 3
        have d4 : vb.cell? ⟨pt, 4, none⟩ = some (.bool T.ap) := HTB.out.cell 4
        have d5 : vb.cell? ⟨pt, 5, none⟩ = some (.slice none 0 0) := HTB.out.cell 5
        have d6 : vb.cell? ⟨pt, 6, none⟩ = some (.int .i64 1) := HTB.out.cell 6
        have r0 : vb.cell? ⟨nb + 1 + 1, 0, none⟩ = some (.slice none 0 0) := RB.out.res.cell 0
        have q0 : vb.frozen? ⟨nb + 1 + 1, 0, none⟩ = false := RB.out.res.free 0
        have r1 : vb.cell? ⟨nb + 1 + 1, 1, none⟩ = some (.int .i64 0) := RB.out.res.cell 1
        have q1 : vb.frozen? ⟨nb + 1 + 1, 1, none⟩ = false := RB.out.res.free 1
        have r2 : vb.cell? ⟨nb + 1 + 1, 2, none⟩ = some (.string ⟨#[]⟩) := RB.out.res.cell 2
        have q2 : vb.frozen? ⟨nb + 1 + 1, 2, none⟩ = false := RB.out.res.free 2
        have r3 : vb.cell? ⟨nb + 1 + 1, 3, none⟩ = some (.int .u32 0) := RB.out.res.cell 3
        have q3 : vb.frozen? ⟨nb + 1 + 1, 3, none⟩ = false := RB.out.res.free 3
        have r4 : vb.cell? ⟨nb + 1 + 1, 4, none⟩ = some (.bool false) := RB.out.res.cell 4
        have q4 : vb.frozen? ⟨nb + 1 + 1, 4, none⟩ = false := RB.out.res.free 4
        have r5 : vb.cell? ⟨nb + 1 + 1, 5, none⟩ = some (.slice none 0 0) := RB.out.res.cell 5
        have q5 : vb.frozen? ⟨nb + 1 + 1, 5, none⟩ = false := RB.out.res.free 5
        have r6 : vb.cell? ⟨nb + 1 + 1, 6, none⟩ = some (.int .i64 0) := RB.out.res.cell 6
        have q6 : vb.frozen? ⟨nb + 1 + 1, 6, none⟩ = false := RB.out.res.free 6
        go_wp2_with (fail)
        obtain ⟨hK, hO, hB⟩ := td_put RB.out (OwnE.nil _ n0) (1) _ rfl
        refine bodyPost_ret_by (results_cell_row rfl _ _ (nb + 1 + 1) 43 (tdC (some ⟨g, 0, none⟩) c T none 0 ([]) (1)) (0, 0) _ rfl hK Tryd.underlying43 rfl size43) rfl ?_
        exact ⟨(some ⟨g, 0, none⟩), c, none, 0, rfl, hO.1, hO.2, hB⟩
open Go.RowKit
/-- Without a host: one is left out. -/
theorem filter_out {l : List Rg} (hu : Once l) {h : ByteArray} (hr : regB l h = true) : l.filter (fun r => !eqS r.h h) = outR l h := by
  induction l with
  | nil => rfl
  | cons x l ih =>
    have hu2 := List.pairwise_cons.1 hu
    by_cases he : eqS x.h h = true
    · have hi : (x :: l).findIdx (isH h) = 0 := by rw [List.findIdx_cons]; show cond (eqS x.h h) 0 _ = 0; rw [he]; rfl
      unfold outR
      rw [hi, List.filter_cons_of_neg (by rw [he]; decide)]
      show _ = l
      rw [List.filter_eq_self]
      intro y hy
      have := hu2.1 y hy
      rw [eqS_iff.1 he] at this
      rw [eqS_no.2 (Ne.symm this)]; rfl
    · have he' : eqS x.h h = false := by simpa using he
      have hi : (x :: l).findIdx (isH h) = l.findIdx (isH h) + 1 := by rw [List.findIdx_cons]; show cond (eqS x.h h) 0 _ = _; rw [he']; rfl
      have hr2 : regB l h = true := by
        obtain ⟨z, hz, hq⟩ := regB_iff.1 hr
        rcases List.mem_cons.1 hz with rfl | hz
        · exact absurd (eqS_iff.2 hq) he
        · exact regB_iff.2 ⟨z, hz, hq⟩
      rw [List.filter_cons_of_pos (by rw [he']; rfl), ih hu2.2 hr2]
      unfold outR
      rw [hi]
      rfl
theorem map_keyed {l : List Rg} (hu : Once l) {m : Cm} (hr : regB l m.ho = true) : l.map (kyF m) = keyed l m.ho m.nk := by
  induction l with
  | nil => obtain ⟨z, hz, _⟩ := regB_iff.1 hr; cases hz
  | cons x l ih =>
    have hu2 := List.pairwise_cons.1 hu
    by_cases he : eqS x.h m.ho = true
    · have hi : (x :: l).findIdx (isH m.ho) = 0 := by rw [List.findIdx_cons]; show cond (eqS x.h m.ho) 0 _ = 0; rw [he]; rfl
      unfold keyed
      rw [hi, List.map_cons]
      have h1 : kyF m x = ⟨x.h, m.nk⟩ := by unfold kyF; rw [if_pos he]
      have h2 : l.map (kyF m) = l := by
        conv => rhs; rw [← List.map_id l]
        refine List.map_congr_left fun y hy => ?_
        unfold kyF
        have := hu2.1 y hy
        rw [eqS_iff.1 he] at this
        rw [if_neg (by rw [eqS_no.2 (Ne.symm this)]; decide)]; rfl
      rw [h1, h2]
      rfl
    · have he' : eqS x.h m.ho = false := by simpa using he
      have hi : (x :: l).findIdx (isH m.ho) = l.findIdx (isH m.ho) + 1 := by rw [List.findIdx_cons]; show cond (eqS x.h m.ho) 0 _ = _; rw [he']; rfl
      have hr2 : regB l m.ho = true := by
        obtain ⟨z, hz, hq⟩ := regB_iff.1 hr
        rcases List.mem_cons.1 hz with rfl | hz
        · exact absurd (eqS_iff.2 hq) he
        · exact regB_iff.2 ⟨z, hz, hq⟩
      have h1 : kyF m x = x := by unfold kyF; rw [if_neg (by rw [he']; decide)]
      rw [List.map_cons, ih hu2.2 hr2, h1]
      unfold keyed
      rw [hi]
      rfl
theorem told_congr {y : Int} {q q' : Rg → Bool} {l : List Rg} (h : ∀ x ∈ l, q x = q' x) : told y q l = told y q' l := by
  unfold told
  rw [List.filter_congr h]
theorem wo_un {t : Tl} {m : Cm} (hg : GoodP t) (hr : regB t.rs m.ho = true) : woT t m = unT t m := by
  unfold woT unT
  rw [filter_out hg.un hr]
theorem ky_key {t : Tl} {m : Cm} (hg : GoodP t) (hr : regB t.rs m.ho = true) : kyT t m = keyT t m := by
  unfold kyT keyT
  rw [map_keyed hg.un hr]
/-- Whom the document tells of an end: all that are left. -/
theorem wo_told {t : Tl} {m : Cm} (hg : GoodP t) : evsOf 3 ⟨#[]⟩ (woT t m).rs = told 3 (isO m) (woT t m).rs := by
  unfold evsOf
  refine told_congr fun x hx => ?_
  obtain ⟨h1, h2⟩ := List.mem_filter.1 hx
  have n1 : eqS x.h ⟨#[]⟩ = false := eqS_no.2 (name_ne (hg.nm x h1))
  have n2 : eqS x.h m.ho = false := by simpa using h2
  show (!eqS x.h ⟨#[]⟩) = isO m x
  rw [n1]
  show true = !eqS x.h m.ho
  rw [n2]; rfl
theorem reg_name {t : Tl} {h : ByteArray} (hg : GoodP t) (hr : regB t.rs h = true) : h ≠ ⟨#[]⟩ := by
  obtain ⟨x, hx, rfl⟩ := regB_iff.1 hr
  exact name_ne (hg.nm x hx)
theorem unreg_z {t : Tl} {m : Cm} (hg : GoodP t) (hr : regB t.rs m.ho = true) (hz : (t.ty != 0) = false) : unregT t m = woT t m ∧ unregE t m [] = [] := by
  have hty : t.ty = 0 := by simpa using hz
  have hho : t.ho = ⟨#[]⟩ := by
    rcases hg.hold with ⟨_, h⟩ | ⟨h, _⟩ | ⟨h, _⟩
    · exact h
    · omega
    · omega
  rw [wo_un hg hr]
  unfold unregT unregE
  rw [hr, if_pos rfl]
  cases hl : lastB t m with
  | false => exact ⟨rfl, rfl⟩
  | true =>
    have hn : (unT t m).rs.length = 0 := by
      unfold lastB at hl
      rw [Bool.or_eq_true] at hl
      rcases hl with h | h
      · exact absurd ((eqS_iff.1 h).symm.trans hho) (reg_name hg hr)
      · exact of_decide_eq_true h
    have hrs : (unT t m).rs = [] := List.eq_nil_of_length_eq_zero hn
    refine ⟨?_, ?_⟩
    · rw [if_pos rfl]
      unfold endT
      show Tl.mk _ 0 ⟨#[]⟩ _ _ = Tl.mk _ t.ty t.ho _ _
      rw [hty, hho]
      rfl
    · show endE (unT t m) m [] = []
      unfold endE
      rw [hrs]
      split <;> rfl
theorem unreg_h {t : Tl} {m : Cm} (hg : GoodP t) (hr : regB t.rs m.ho = true) (hh : (t.ho.toList == m.ho.toList) = false) (hl : (((woT t m).rs.length : Int) == 0) = false) : unregT t m = woT t m ∧ unregE t m [] = [] := by
  rw [wo_un hg hr] at hl ⊢
  have hb : lastB t m = false := by
    unfold lastB
    have h1 : eqS t.ho m.ho = false := hh
    have h2 : ¬ (unT t m).rs.length = 0 := by intro h; rw [h] at hl; cases hl
    rw [h1, decide_eq_false h2]; rfl
  unfold unregT unregE
  rw [hr, hb, if_pos rfl]
  exact ⟨rfl, rfl⟩
theorem unreg_end {t : Tl} {m : Cm} (hg : GoodP t) (hr : regB t.rs m.ho = true) (hb : lastB t m = true) : unregT t m = endT (woT t m) ∧ unregE t m [] = endE (woT t m) m [] := by
  rw [wo_un hg hr]
  unfold unregT unregE
  rw [hr, hb, if_pos rfl, if_pos rfl]
  exact ⟨rfl, rfl⟩
theorem last_h {t : Tl} {m : Cm} (hh : (t.ho.toList == m.ho.toList) = true) : lastB t m = true := by
  unfold lastB
  have h1 : eqS t.ho m.ho = true := hh
  rw [h1, Bool.true_or]
theorem last_l {t : Tl} {m : Cm} (hg : GoodP t) (hr : regB t.rs m.ho = true) (hl : (((woT t m).rs.length : Int) == 0) = true) : lastB t m = true := by
  rw [wo_un hg hr] at hl
  unfold lastB
  have h2 : (unT t m).rs.length = 0 := by have : ((unT t m).rs.length : Int) = 0 := by simpa using hl
                                          omega
  rw [decide_eq_true h2, Bool.or_true]
theorem endE_told {t : Tl} {m : Cm} (hg : GoodP t) (h : t.ty = 3 ∨ t.ty = 4) : endE (woT t m) m [] = evsOf 3 ⟨#[]⟩ (woT t m).rs := by
  unfold endE
  rw [if_neg (by show ¬ (t.ty = 1 ∨ t.ty = 2); omega), List.nil_append, wo_told hg]
theorem endE_none {t : Tl} {m : Cm} (h : (t.ty = 1 ∨ t.ty = 2) ∨ (woT t m).rs = []) : endE (woT t m) m [] = [] := by
  unfold endE
  rcases h with h | h
  · rw [if_pos (show (woT t m).ty = 1 ∨ (woT t m).ty = 2 from h)]
  · rw [h]; split <;> rfl
theorem ty_of_h {t : Tl} {m : Cm} (hg : GoodP t) (hr : regB t.rs m.ho = true) (hh : (t.ho.toList == m.ho.toList) = true) : 1 ≤ t.ty ∧ t.ty ≤ 4 := by
  have hho : t.ho = m.ho := eqS_iff.1 hh
  have hn := reg_name hg hr
  rcases hg.hold with ⟨_, h⟩ | ⟨_, h, _⟩ | ⟨h, _⟩
  · exact absurd (hho.symm.trans h) hn
  · exact absurd (hho.symm.trans h) hn
  · exact h
theorem ty12 {t : Tl} {m : Cm} (hg : GoodP t) (hr : regB t.rs m.ho = true) (hh : (t.ho.toList == m.ho.toList) = true) (h3 : (t.ty == 3) = false) (h4 : (t.ty == 4) = false) : (t.ty = 1 ∨ t.ty = 2) ∨ (woT t m).rs = [] := by
  have := ty_of_h hg hr hh
  have a3 : ¬ t.ty = 3 := by simpa using h3
  have a4 : ¬ t.ty = 4 := by simpa using h4
  exact .inl (by omega)
theorem rsnil {t : Tl} {m : Cm} (hl : (((woT t m).rs.length : Int) == 0) = true) : (t.ty = 1 ∨ t.ty = 2) ∨ (woT t m).rs = [] := by
  have h : ((woT t m).rs.length : Int) = 0 := by simpa using hl
  exact .inr (List.eq_nil_of_length_eq_zero (by omega))
section
variable (n0 : Nat) (A : Option Addr) (c : Nat) (t : Tl) (m : Cm) (w : World)
abbrev RegC (T : Tl) (es : List Ev) (cd : Int) : Prop := Calls Tryd.prog 39 #[tlV A c t, cmV m] w (RdOut n0 w T es cd)
end
theorem reg_none (n0 : Nat) (A : Option Addr) (c : Nat) (t : Tl) (m : Cm) (w : World) (ho : Own w n0 A c t.rs) (hn : n0 ≤ w.heap.size) (hm : t.rs.length ≤ 200) (hqq : (!m.ig && m.ke != keyR t.rs m.ho) = false) (hk : (m.nk != 0) = false) (hw : (keyR t.rs m.ho != 0) = false) : RegC n0 A c t m w (setAp t m) [] 1 :=
  refReg_none n0 A c t m w ho hn hm (igq hqq) hk hw _ rfl
theorem reg_new (n0 : Nat) (A : Option Addr) (c : Nat) (t : Tl) (m : Cm) (w : World) (ho : Own w n0 A c t.rs) (hn : n0 ≤ w.heap.size) (hm : t.rs.length ≤ 200) (hqq : (!m.ig && m.ke != keyR t.rs m.ho) = false) (hk : (m.nk != 0) = true) (hw : (keyR t.rs m.ho == 0) = true) (h16 : ((t.rs.length : Int) == 16) = false) (hs : m.ho.size ≤ maxLen) : RegC n0 A c t m w (setAp (newT t m) m) [] 1 :=
  refReg_new n0 A c t m w ho hn hm (igq hqq) hk hw h16 hs _ rfl
theorem reg_key (n0 : Nat) (A : Option Addr) (c : Nat) (t : Tl) (m : Cm) (w : World) (ho : Own w n0 A c t.rs) (hn : n0 ≤ w.heap.size) (hm : t.rs.length ≤ 200) (hqq : (!m.ig && m.ke != keyR t.rs m.ho) = false) (hk : (m.nk != 0) = true) (hw : (keyR t.rs m.ho == 0) = false) (hpos : 0 < t.rs.length) : RegC n0 A c t m w (setAp (kyT t m) m) [] 1 :=
  refReg_key n0 A c t m w ho hn hm (igq hqq) hk hw hpos _ rfl
theorem reg_full (n0 : Nat) (A : Option Addr) (c : Nat) (t : Tl) (m : Cm) (w : World) (ho : Own w n0 A c t.rs) (hn : n0 ≤ w.heap.size) (hm : t.rs.length ≤ 200) (hqq : (!m.ig && m.ke != keyR t.rs m.ho) = false) (hk : (m.nk != 0) = true) (hw : (keyR t.rs m.ho == 0) = true) (h16 : ((t.rs.length : Int) == 16) = true) : RegC n0 A c t m w t [] 8 := by
  cases hig : m.ig with
  | true =>
    exact refReg_full_i n0 A c t m w ho hn hm hig hk hw h16
  | false =>
    have hq : (m.ke != keyR t.rs m.ho) = false := by rw [hig] at hqq; simpa using hqq
    exact refReg_full_k n0 A c t m w ho hn hm hig hq hk hw h16
theorem left_z (n0 : Nat) (A : Option Addr) (c : Nat) (t : Tl) (m : Cm) (w : World) (ho : Own w n0 A c t.rs) (hn : n0 ≤ w.heap.size) (hm : t.rs.length ≤ 200) (hqq : (!m.ig && m.ke != keyR t.rs m.ho) = false) (hk : (m.nk != 0) = false) (hw : (keyR t.rs m.ho != 0) = true) (hz : (t.ty != 0) = false) : RegC n0 A c t m w (setAp (woT t m) m) ([]) 1 :=
  refReg_left_kz n0 A c t m w ho hn hm (igq hqq) hk hw hz _ rfl
theorem left_h (n0 : Nat) (A : Option Addr) (c : Nat) (t : Tl) (m : Cm) (w : World) (ho : Own w n0 A c t.rs) (hn : n0 ≤ w.heap.size) (hm : t.rs.length ≤ 200) (hqq : (!m.ig && m.ke != keyR t.rs m.ho) = false) (hk : (m.nk != 0) = false) (hw : (keyR t.rs m.ho != 0) = true) (hz : (t.ty != 0) = true) (hh : (t.ho.toList == m.ho.toList) = false) (hl : (((woT t m).rs.length : Int) == 0) = false) : RegC n0 A c t m w (setAp (woT t m) m) ([]) 1 :=
  refReg_left_kh n0 A c t m w ho hn hm (igq hqq) hk hw hz hh hl _ rfl
theorem left_eh0 (n0 : Nat) (A : Option Addr) (c : Nat) (t : Tl) (m : Cm) (w : World) (ho : Own w n0 A c t.rs) (hn : n0 ≤ w.heap.size) (hm : t.rs.length ≤ 200) (hqq : (!m.ig && m.ke != keyR t.rs m.ho) = false) (hk : (m.nk != 0) = false) (hw : (keyR t.rs m.ho != 0) = true) (hz : (t.ty != 0) = true) (hh : (t.ho.toList == m.ho.toList) = true) (h3 : (t.ty == 3) = false) (h4 : (t.ty == 4) = false) : RegC n0 A c t m w (setAp (endT (woT t m)) m) ([]) 1 :=
  refReg_left_eh0 n0 A c t m w ho hn hm (igq hqq) hk hw hz hh h3 h4 _ rfl
theorem left_eh3 (n0 : Nat) (A : Option Addr) (c : Nat) (t : Tl) (m : Cm) (w : World) (ho : Own w n0 A c t.rs) (hn : n0 ≤ w.heap.size) (hm : t.rs.length ≤ 200) (hqq : (!m.ig && m.ke != keyR t.rs m.ho) = false) (hk : (m.nk != 0) = false) (hw : (keyR t.rs m.ho != 0) = true) (hz : (t.ty != 0) = true) (hh : (t.ho.toList == m.ho.toList) = true) (h3 : (t.ty == 3) = true) : RegC n0 A c t m w (setAp (endT (woT t m)) m) (evsOf 3 ⟨#[]⟩ (woT t m).rs) 1 :=
  refReg_left_eh3 n0 A c t m w ho hn hm (igq hqq) hk hw hz hh h3 _ rfl
theorem left_eh4 (n0 : Nat) (A : Option Addr) (c : Nat) (t : Tl) (m : Cm) (w : World) (ho : Own w n0 A c t.rs) (hn : n0 ≤ w.heap.size) (hm : t.rs.length ≤ 200) (hqq : (!m.ig && m.ke != keyR t.rs m.ho) = false) (hk : (m.nk != 0) = false) (hw : (keyR t.rs m.ho != 0) = true) (hz : (t.ty != 0) = true) (hh : (t.ho.toList == m.ho.toList) = true) (h3 : (t.ty == 3) = false) (h4 : (t.ty == 4) = true) : RegC n0 A c t m w (setAp (endT (woT t m)) m) (evsOf 3 ⟨#[]⟩ (woT t m).rs) 1 :=
  refReg_left_eh4 n0 A c t m w ho hn hm (igq hqq) hk hw hz hh h3 h4 _ rfl
theorem left_el0 (n0 : Nat) (A : Option Addr) (c : Nat) (t : Tl) (m : Cm) (w : World) (ho : Own w n0 A c t.rs) (hn : n0 ≤ w.heap.size) (hm : t.rs.length ≤ 200) (hqq : (!m.ig && m.ke != keyR t.rs m.ho) = false) (hk : (m.nk != 0) = false) (hw : (keyR t.rs m.ho != 0) = true) (hz : (t.ty != 0) = true) (hh : (t.ho.toList == m.ho.toList) = false) (hl : (((woT t m).rs.length : Int) == 0) = true) (h3 : (t.ty == 3) = false) (h4 : (t.ty == 4) = false) : RegC n0 A c t m w (setAp (endT (woT t m)) m) ([]) 1 :=
  refReg_left_el0 n0 A c t m w ho hn hm (igq hqq) hk hw hz hh hl h3 h4 _ rfl
theorem left_el3 (n0 : Nat) (A : Option Addr) (c : Nat) (t : Tl) (m : Cm) (w : World) (ho : Own w n0 A c t.rs) (hn : n0 ≤ w.heap.size) (hm : t.rs.length ≤ 200) (hqq : (!m.ig && m.ke != keyR t.rs m.ho) = false) (hk : (m.nk != 0) = false) (hw : (keyR t.rs m.ho != 0) = true) (hz : (t.ty != 0) = true) (hh : (t.ho.toList == m.ho.toList) = false) (hl : (((woT t m).rs.length : Int) == 0) = true) (h3 : (t.ty == 3) = true) : RegC n0 A c t m w (setAp (endT (woT t m)) m) (evsOf 3 ⟨#[]⟩ (woT t m).rs) 1 :=
  refReg_left_el3 n0 A c t m w ho hn hm (igq hqq) hk hw hz hh hl h3 _ rfl
theorem left_el4 (n0 : Nat) (A : Option Addr) (c : Nat) (t : Tl) (m : Cm) (w : World) (ho : Own w n0 A c t.rs) (hn : n0 ≤ w.heap.size) (hm : t.rs.length ≤ 200) (hqq : (!m.ig && m.ke != keyR t.rs m.ho) = false) (hk : (m.nk != 0) = false) (hw : (keyR t.rs m.ho != 0) = true) (hz : (t.ty != 0) = true) (hh : (t.ho.toList == m.ho.toList) = false) (hl : (((woT t m).rs.length : Int) == 0) = true) (h3 : (t.ty == 3) = false) (h4 : (t.ty == 4) = true) : RegC n0 A c t m w (setAp (endT (woT t m)) m) (evsOf 3 ⟨#[]⟩ (woT t m).rs) 1 :=
  refReg_left_el4 n0 A c t m w ho hn hm (igq hqq) hk hw hz hh hl h3 h4 _ rfl
theorem reg_left (n0 : Nat) (A : Option Addr) (c : Nat) (t : Tl) (m : Cm) (w : World) (ho : Own w n0 A c t.rs) (hn : n0 ≤ w.heap.size) (hm : t.rs.length ≤ 200) (hg : GoodP t) (hqq : (!m.ig && m.ke != keyR t.rs m.ho) = false) (hk : (m.nk != 0) = false) (hw : (keyR t.rs m.ho != 0) = true) (hr : regB t.rs m.ho = true) : RegC n0 A c t m w (setAp (unregT t m) m) (unregE t m []) 1 := by
  cases hz : (t.ty != 0) with
  | false =>
    rw [(unreg_z hg hr hz).1, (unreg_z hg hr hz).2]
    exact left_z n0 A c t m w ho hn hm hqq hk hw hz
  | true =>
    cases hh : (t.ho.toList == m.ho.toList) with
    | true =>
      have hb := last_h hh
      rw [(unreg_end hg hr hb).1, (unreg_end hg hr hb).2]
      cases h3 : (t.ty == 3) with
      | true =>
        rw [endE_told hg (.inl (by simpa using h3))]
        exact left_eh3 n0 A c t m w ho hn hm hqq hk hw hz hh h3
      | false =>
        cases h4 : (t.ty == 4) with
        | true =>
          rw [endE_told hg (.inr (by simpa using h4))]
          exact left_eh4 n0 A c t m w ho hn hm hqq hk hw hz hh h3 h4
        | false =>
          rw [endE_none (ty12 hg hr hh h3 h4)]
          exact left_eh0 n0 A c t m w ho hn hm hqq hk hw hz hh h3 h4
    | false =>
      cases hl : (((woT t m).rs.length : Int) == 0) with
      | false =>
        rw [(unreg_h hg hr hh hl).1, (unreg_h hg hr hh hl).2]
        exact left_h n0 A c t m w ho hn hm hqq hk hw hz hh hl
      | true =>
        have hb := last_l hg hr hl
        rw [(unreg_end hg hr hb).1, (unreg_end hg hr hb).2]
        cases h3 : (t.ty == 3) with
        | true =>
          rw [endE_told hg (.inl (by simpa using h3))]
          exact left_el3 n0 A c t m w ho hn hm hqq hk hw hz hh hl h3
        | false =>
          cases h4 : (t.ty == 4) with
          | true =>
            rw [endE_told hg (.inr (by simpa using h4))]
            exact left_el4 n0 A c t m w ho hn hm hqq hk hw hz hh hl h3 h4
          | false =>
            rw [endE_none (rsnil hl)]
            exact left_el0 n0 A c t m w ho hn hm hqq hk hw hz hh hl h3 h4
/-- The document's register. -/
theorem refRegister_any (n0 : Nat) (A : Option Addr) (c : Nat) (t : Tl) (m : Cm) (w : World) (ho : Own w n0 A c t.rs) (hn : n0 ≤ w.heap.size) (hm : t.rs.length ≤ 200) (hg : GoodP t) (hs : m.ho.size ≤ maxLen) : RegC n0 A c t m w (regT t m) (regE t m []) (regCode t m) := by
  unfold regT regE regCode
  cases hqq : (!m.ig && m.ke != keyR t.rs m.ho) with
  | true =>
    rw [Bool.and_eq_true] at hqq
    exact refReg_conflict n0 A c t m w ho hn hm (by simpa using hqq.1) hqq.2
  | false =>
    simp only [Bool.false_eq_true, if_false]
    by_cases hk : m.nk = 0
    · have hkb : (m.nk != 0) = false := by rw [hk]; rfl
      rw [if_pos hk, if_pos hk, if_pos hk]
      by_cases hw : keyR t.rs m.ho = 0
      · have hr := (keyR_zero hg.toRegsP).1 hw
        have h1 : unregT t m = t := by unfold unregT; rw [hr]; rfl
        have h2 : unregE t m [] = [] := by unfold unregE; rw [hr]; rfl
        rw [h1, h2]
        exact reg_none n0 A c t m w ho hn hm hqq hkb (by rw [hw]; rfl)
      · have hr := (keyR_pos hg.toRegsP).1 hw
        exact reg_left n0 A c t m w ho hn hm hg hqq hkb (by simpa using hw) hr
    · have hkb : (m.nk != 0) = true := by simpa using hk
      rw [if_neg hk, if_neg hk, if_neg hk]
      cases hr : regB t.rs m.ho with
      | true =>
        have hw := (keyR_pos hg.toRegsP).2 hr
        rw [if_pos rfl, if_pos rfl, ← ky_key hg hr]
        refine reg_key n0 A c t m w ho hn hm hqq hkb (by simpa using hw) ?_
        obtain ⟨x, hx, _⟩ := regB_iff.1 hr
        exact List.length_pos_of_mem hx
      | false =>
        have hw := (keyR_zero hg.toRegsP).2 hr
        simp only [Bool.false_eq_true, if_false]
        by_cases h16 : t.rs.length = 16
        · rw [if_pos h16, if_pos h16]
          exact reg_full n0 A c t m w ho hn hm hqq hkb (by rw [hw]; rfl) (by rw [h16]; rfl)
        · rw [if_neg h16, if_neg h16]
          exact reg_new n0 A c t m w ho hn hm hqq hkb (by rw [hw]; rfl) (by rw [int_beq]; exact decide_eq_false (by omega)) hs
theorem refResv_any (n0 : Nat) (A : Option Addr) (c : Nat) (t : Tl) (m : Cm) (w : World) (ho : Own w n0 A c t.rs) (hn : n0 ≤ w.heap.size) (hm : t.rs.length ≤ 200) (hty : typeB m.ty = true) (hrg : regdB t m = true) : Calls Tryd.prog 40 #[tlV A c t, cmV m] w (RdOut n0 w (resvT t m) [] (resvCode t m)) := by
  unfold resvT resvCode
  rw [hty, hrg]
  simp only [Bool.true_eq_false, if_false]
  by_cases hz : t.ty = 0
  · rw [if_pos hz, if_pos hz]
    exact refResv_free n0 A c t m w ho hn hm hty (by rw [hz]; rfl)
  · have hzb : (t.ty == 0) = false := by simpa using hz
    rw [if_neg hz, if_neg hz]
    cases hh : holdsB t m.ho with
    | false =>
      rw [Bool.and_false]
      exact refResv_not n0 A c t m w ho hn hm hzb hh
    | true =>
      rw [Bool.and_true]
      cases hq : (t.ty == m.ty) with
      | true => exact refResv_same n0 A c t m w ho hn hm hzb hh hq
      | false => exact refResv_other n0 A c t m w ho hn hm hzb hh hq
theorem refRel_any (n0 : Nat) (A : Option Addr) (c : Nat) (t : Tl) (m : Cm) (w : World) (ho : Own w n0 A c t.rs) (hn : n0 ≤ w.heap.size) (hm : t.rs.length ≤ 200) (hrg : regdB t m = true) : Calls Tryd.prog 41 #[tlV A c t, cmV m] w (RdOut n0 w (relT t m) (relE t m []) (relCode t m)) := by
  unfold relT relE relCode relB
  rw [hrg, Bool.true_and]
  simp only [Bool.true_eq_false, if_false]
  cases hh : holdsB t m.ho with
  | false =>
    simp only [Bool.false_and, Bool.false_eq_true, if_false, if_true]
    exact refRel_not n0 A c t m w ho hn hm hh
  | true =>
    rw [Bool.true_and]
    simp only [Bool.true_eq_false, if_false]
    by_cases hq : m.ty = t.ty
    · have h1 : (m.ty == t.ty) = true := by simpa using hq
      have h2 : (t.ty != m.ty) = false := by rw [hq]; simp
      have h3 : (m.ty != t.ty) = false := by rw [hq]; simp
      rw [h1, h3, if_pos rfl, if_pos rfl]
      simp only [Bool.false_eq_true, if_false]
      unfold endE
      rw [← hq]
      cases k1 : (m.ty != 1) with
      | false =>
        have : m.ty = 1 := by simpa using k1
        rw [if_pos (.inl this)]
        exact refRel_one n0 A c t m w ho hn hm hh h2 k1
      | true =>
        cases k2 : (m.ty != 2) with
        | false =>
          have : m.ty = 2 := by simpa using k2
          rw [if_pos (.inr this)]
          exact refRel_two n0 A c t m w ho hn hm hh h2 k1 k2
        | true =>
          have n1 : ¬ m.ty = 1 := by simpa using k1
          have n2 : ¬ m.ty = 2 := by simpa using k2
          rw [if_neg (by omega), List.nil_append]
          exact refRel_told n0 A c t m w ho hn hm hh h2 k1 k2
    · have h1 : (m.ty == t.ty) = false := by simpa using hq
      have h2 : (t.ty != m.ty) = true := by simpa using fun h => hq h.symm
      have h3 : (m.ty != t.ty) = true := by simpa using hq
      rw [h1, h3]
      simp only [Bool.false_eq_true, if_false, if_true]
      exact refRel_wrong n0 A c t m w ho hn hm hh h2
end Go.Proofs.YtgekadfkokkapaaDoor
