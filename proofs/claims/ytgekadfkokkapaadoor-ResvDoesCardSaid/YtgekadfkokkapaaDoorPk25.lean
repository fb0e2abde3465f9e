/- The document's changes: who asks is registered: nothing to do; one more. The document's changes: who asks is registered: one more. The document's changes: who asks is registered no more. -/
import Derived.Test.YtgekadfkokkapaaDoorPk24
namespace Go.Proofs.YtgekadfkokkapaaDoor
open Go.RowKit
theorem RdAt.far {n0 nb p : Nat} {w v v' : World} {A : Option Addr} {c : Nat} {t : Tl} {m : Cm} {cs : Array Value} (h : RdAt n0 nb w v A c t m) (hp : Blk v p 43 cs) (hpn : nb + 2 < p) (ho : Only (fun k => k = p) v v') : RdAt n0 nb w v' A c t m := by
  have hap : (Value.slice A t.rs.length c).ownBlock ≠ some p := own_apart h.own.1 hp (by decide)
  have hn := h.hn
  exact ⟨(ho.block nb h.box.lt (by omega)).trans h.box, (ho.block (nb + 1) h.cmd.lt (by omega)).trans h.cmd, (ho.block (nb + 2) h.res.lt (by omega)).trans h.res,
    ⟨own_keep h.own.1 fun g hg => ho.block g (h.own.1.lt g hg).2 (fun e => hap (hg.trans (congrArg some e))), h.own.2⟩, h.bel.trans (ho.toBelow h.lt (fun k hk => by omega)), hn⟩
theorem told_put {v : World} {p : Nat} {A : Option Addr} {c : Nat} {t t0 : Tl} {A0 : Option Addr} {c0 : Nat} {B : Option Addr} {k : Nat} {es : List Ev} {cd : Int} (h : Blk v p 43 (tdC A0 c0 t0 B k es cd)) :
    ∀ V, V = (((((v.setCell ⟨p, 0, none⟩ (.slice A t.rs.length c)).setCell ⟨p, 1, none⟩ (.int .i64 t.ty)).setCell ⟨p, 2, none⟩ (.string t.ho)).setCell ⟨p, 3, none⟩ (.int .u32 t.ge)).setCell ⟨p, 4, none⟩ (.bool t.ap)) → Blk V p 43 (tdC A c t B k es cd) ∧ Only (fun k => k = p) v V := by
  rintro V rfl
  exact ⟨(((((h.put 0 _).put 1 _).put 2 _).put 3 _).put 4 _), ((((((Only.refl (fun k => k = p) v).setCell (.inl rfl) _).setCell (.inl rfl) _).setCell (.inl rfl) _).setCell (.inl rfl) _).setCell (.inl rfl) _)⟩
theorem RdAt.as {n0 nb : Nat} {w v : World} {A : Option Addr} {c : Nat} {t t' : Tl} {m : Cm} (h : RdAt n0 nb w v A c t m) (e : t = t') : RdAt n0 nb w v A c t' m := e ▸ h
theorem sa0 {T : Tl} {m : Cm} (h1 : (m.ap == 1) = false) (h2 : (m.ap == 2) = false) : setAp T m = T := by
  unfold setAp
  rw [if_neg (by simpa using h1), if_neg (by simpa using h2)]
theorem sa1 {T : Tl} {m : Cm} (h1 : (m.ap == 1) = true) : setAp T m = { T with ap := false } := by
  unfold setAp
  rw [if_pos (by simpa using h1)]
theorem sa2 {T : Tl} {m : Cm} (h1 : (m.ap == 1) = false) (h2 : (m.ap == 2) = true) : setAp T m = { T with ap := true } := by
  unfold setAp
  rw [if_neg (by simpa using h1), if_pos (by simpa using h2)]
theorem ap3 (m : Cm) : ((m.ap == 1) = false ∧ (m.ap == 2) = false) ∨ ((m.ap == 1) = true ∧ (m.ap == 2) = false) ∨ ((m.ap == 1) = false ∧ (m.ap == 2) = true) := by
  cases h1 : (m.ap == 1) with
  | true =>
    have h : m.ap = 1 := by simpa using h1
    exact .inr (.inl ⟨rfl, by rw [h]; rfl⟩)
  | false =>
    cases h2 : (m.ap == 2) with
    | true => exact .inr (.inr ⟨rfl, rfl⟩)
    | false => exact .inl ⟨rfl, rfl⟩
theorem igq {t : Tl} {m : Cm} (h : (!m.ig && m.ke != keyR t.rs m.ho) = false) : m.ig = true ∨ m.ig = false ∧ (m.ke != keyR t.rs m.ho) = false := by
  cases hi : m.ig with
  | true => exact .inl rfl
  | false => exact .inr ⟨rfl, by rw [hi] at h; simpa using h⟩
set_option maxRecDepth 100000 in
set_option maxHeartbeats 4000000 in
theorem refReg_none (n0 : Nat) (A : Option Addr) (c : Nat) (t : Tl) (m : Cm) (w : World) (ho : Own w n0 A c t.rs) (hn : n0 ≤ w.heap.size) (hm : t.rs.length ≤ 200) (hgq : m.ig = true ∨ m.ig = false ∧ (m.ke != keyR t.rs m.ho) = false) (hk : (m.nk != 0) = false) (hw : (keyR t.rs m.ho != 0) = false) (T : Tl) (hT : setAp (t) m = T) :
    Calls Tryd.prog 39 #[tlV A c t, cmV m] w (RdOut n0 w T ([]) (1)) := by
  have HT := Lib.hid hT
  have HG := Lib.hid hgq
  clear hT hgq
  have R0 := Lib.hid (RdAt.from w A c t m ho hn)
  have HM := Lib.hid (show t.rs.length ≤ maxLen by unfold maxLen; omega)
  have HM2 := Lib.hid hm
  have hnt := not_true
  have hnf := not_false
  obtain ⟨nb, hnb⟩ : ∃ nb, nb = w.heap.size := ⟨_, rfl⟩
  clear ho hn hm
  have HK := Lib.hid (fun v (hl2 : Rgs v A t.rs) => refKey_any A c t m.ho v hl2 HM.out)
  go_enter Tryd.func39, Tryd.ntmps39
  go_upto_region 1 with (fail)
  change Code.wp _ _ _ _ (((w.alloc (.cells (tlC A c t) 27)).alloc (.cells (cmC m) 37)).alloc (.cells tdZ 43))
  generalize ((w.alloc (.cells (tlC A c t) 27)).alloc (.cells (cmC m) 37)).alloc (.cells tdZ 43) = v0 at *
  rw [← hnb] at R0 ⊢
  clear hnb
  have c0 : v0.cell? ⟨nb, 0, none⟩ = some (.slice A t.rs.length c) := R0.out.box.cell 0
  have c1 : v0.cell? ⟨nb, 1, none⟩ = some (.int .i64 t.ty) := R0.out.box.cell 1
  have c2 : v0.cell? ⟨nb, 2, none⟩ = some (.string t.ho) := R0.out.box.cell 2
  have c3 : v0.cell? ⟨nb, 3, none⟩ = some (.int .u32 t.ge) := R0.out.box.cell 3
  have c4 : v0.cell? ⟨nb, 4, none⟩ = some (.bool t.ap) := R0.out.box.cell 4
  have m2 : v0.cell? ⟨nb + 1, 2, none⟩ = some (.string m.ho) := R0.out.cmd.cell 2
  go_wp2_with (fail)
  refine (HK.out _ R0.out.own.rgs).mono ?_; rintro e v1 ⟨rfl, hb⟩
  have R1 := Lib.hid (R0.out.below hb)
  clear c0 c1 c2 c3 c4 m2 hb
  have m8 : v1.cell? ⟨nb + 1, 8, none⟩ = some (.int .u64 m.ke) := R1.out.cmd.cell 8
  rcases HG.out with hg | ⟨hg, hq⟩
  all_goals
   have m12 : v1.cell? ⟨nb + 1, 12, none⟩ = some (.bool m.ig) := R1.out.cmd.cell 12
   rw [hg] at m12
   go_upto_region 5 with (fail)
   change Code.wp _ _ _ _ (v1.alloc (.cells (tdC none 0 zT none 0 [] 1) 43))
   have hal := (Below.refl v1.heap.size v1).alloc (Nat.le_refl _) (.cells (tdC none 0 zT none 0 [] 1) 43)
   have R2 := Lib.hid (R1.out.below hal); have HTD := Lib.hid (Blk.new v1 43 (tdC none 0 zT none 0 [] 1))
   obtain ⟨pt, hpt⟩ : ∃ pt, pt = v1.heap.size := ⟨_, rfl⟩
   rw [← hpt] at HTD ⊢
   have HPT := Lib.hid (show nb + 2 < pt by rw [hpt]; exact R1.out.res.lt)
   clear hal hpt m8 m12
   generalize v1.alloc (.cells (tdC none 0 zT none 0 [] 1) 43) = v2 at *
   have m9 : v2.cell? ⟨nb + 1, 9, none⟩ = some (.int .u64 m.nk) := R2.out.cmd.cell 9
   have m13 : v2.cell? ⟨nb + 1, 13, none⟩ = some (.int .i64 m.ap) := R2.out.cmd.cell 13
   rcases ap3 m with ⟨h1, h2⟩ | ⟨h1, h2⟩ | ⟨h1, h2⟩
   all_goals
    first
    | have hx : (m.ap == 2) = true := h2
      clear hx
      have c4 : v2.cell? ⟨nb, 4, none⟩ = some (.bool t.ap) := R2.out.box.cell 4
      have f4 : v2.frozen? ⟨nb, 4, none⟩ = false := R2.out.box.free 4
      go_upto_region 26 with (fail)
      have RA := Lib.hid (RdAt.as (R2.out.put 4 (.bool true) (t' := { (t) with ap := true }) rfl rfl) ((sa2 h1 h2).symm.trans HT.out))
      have HTA := Lib.hid (HTD.out.far (p := ⟨nb, 4, none⟩) (by have := HPT.out; show pt ≠ nb; omega) (.bool true))
      clear c4 f4 m13
      generalize v2.setCell ⟨nb, 4, none⟩ (.bool true) = va at *
    | have hx : (m.ap == 1) = true := h1
      clear hx
      have c4 : v2.cell? ⟨nb, 4, none⟩ = some (.bool t.ap) := R2.out.box.cell 4
      have f4 : v2.frozen? ⟨nb, 4, none⟩ = false := R2.out.box.free 4
      go_upto_region 26 with (fail)
      have RA := Lib.hid (RdAt.as (R2.out.put 4 (.bool false) (t' := { (t) with ap := false }) rfl rfl) ((sa1 h1).symm.trans HT.out))
      have HTA := Lib.hid (HTD.out.far (p := ⟨nb, 4, none⟩) (by have := HPT.out; show pt ≠ nb; omega) (.bool false))
      clear c4 f4 m13
      generalize v2.setCell ⟨nb, 4, none⟩ (.bool false) = va at *
    | go_upto_region 26 with (fail)
      have RA := Lib.hid (RdAt.as (R2.out) ((sa0 h1 h2).symm.trans HT.out))
      have HTA := Lib.hid HTD.out
      clear m13
      generalize hva : v2 = va at *
      clear hva
    have c0 : va.cell? ⟨nb, 0, none⟩ = some (.slice A T.rs.length c) := RA.out.box.cell 0
    have c1 : va.cell? ⟨nb, 1, none⟩ = some (.int .i64 T.ty) := RA.out.box.cell 1
    have c2 : va.cell? ⟨nb, 2, none⟩ = some (.string T.ho) := RA.out.box.cell 2
    have c3 : va.cell? ⟨nb, 3, none⟩ = some (.int .u32 T.ge) := RA.out.box.cell 3
    have c4 : va.cell? ⟨nb, 4, none⟩ = some (.bool T.ap) := RA.out.box.cell 4
    have d0 : va.cell? ⟨pt, 0, none⟩ = some (.slice none 0 0) := HTA.out.cell 0
    have g0 : va.frozen? ⟨pt, 0, none⟩ = false := HTA.out.free 0
    have d1 : va.cell? ⟨pt, 1, none⟩ = some (.int .i64 0) := HTA.out.cell 1
    have g1 : va.frozen? ⟨pt, 1, none⟩ = false := HTA.out.free 1
    have d2 : va.cell? ⟨pt, 2, none⟩ = some (.string ⟨#[]⟩) := HTA.out.cell 2
    have g2 : va.frozen? ⟨pt, 2, none⟩ = false := HTA.out.free 2
    have d3 : va.cell? ⟨pt, 3, none⟩ = some (.int .u32 0) := HTA.out.cell 3
    have g3 : va.frozen? ⟨pt, 3, none⟩ = false := HTA.out.free 3
    have d4 : va.cell? ⟨pt, 4, none⟩ = some (.bool false) := HTA.out.cell 4
    have g4 : va.frozen? ⟨pt, 4, none⟩ = false := HTA.out.free 4
    go_upto_region 27 with (fail)
    obtain ⟨hTB, hTO⟩ := told_put (A := A) (c := c) (t := T) HTA.out _ rfl
    have RB := Lib.hid (RA.out.far HTA.out HPT.out hTO); have HTB := Lib.hid hTB
    clear hTB hTO c0 c1 c2 c3 c4 d0 d1 d2 d3 d4 g0 g1 g2 g3 g4
    generalize ((((va.setCell ⟨pt, 0, none⟩ (.slice A T.rs.length c)).setCell ⟨pt, 1, none⟩ (.int .i64 T.ty)).setCell ⟨pt, 2, none⟩ (.string T.ho)).setCell ⟨pt, 3, none⟩ (.int .u32 T.ge)).setCell ⟨pt, 4, none⟩ (.bool T.ap) = vb at *
    have d0 : vb.cell? ⟨pt, 0, none⟩ = some (.slice A T.rs.length c) := HTB.out.cell 0
    have d1 : vb.cell? ⟨pt, 1, none⟩ = some (.int .i64 T.ty) := HTB.out.cell 1
    have d2 : vb.cell? ⟨pt, 2, none⟩ = some (.string T.ho) := HTB.out.cell 2
    have d3 : vb.cell? ⟨pt, 3, none⟩ = some (.int .u32 T.ge) := HTB.out.cell 3
    have d4 : vb.cell? ⟨pt, 4, none⟩ = some (.bool T.ap) := HTB.out.cell 4
    have d5 : vb.cell? ⟨pt, 5, none⟩ = some (.slice none 0 0) := HTB.out.cell 5
    have d6 : vb.cell? ⟨pt, 6, none⟩ = some (.int .i64 1) := HTB.out.cell 6
    have r0 : vb.cell? ⟨nb + 1 + 1, 0, none⟩ = some (.slice none 0 0) := RB.out.res.cell 0
    have q0 : vb.frozen? ⟨nb + 1 + 1, 0, none⟩ = false := RB.out.res.free 0
    have r1 : vb.cell? ⟨nb + 1 + 1, 1, none⟩ = some (.int .i64 0) := RB.out.res.cell 1
    have q1 : vb.frozen? ⟨nb + 1 + 1, 1, none⟩ = false := RB.out.res.free 1
    have r2 : vb.cell? ⟨nb + 1 + 1, 2, none⟩ = some (.string ⟨#[]⟩) := RB.out.res.cell 2
    have q2 : vb.frozen? ⟨nb + 1 + 1, 2, none⟩ = false := RB.out.res.free 2
    have r3 : vb.cell? ⟨nb + 1 + 1, 3, none⟩ = some (.int .u32 0) := RB.out.res.cell 3
    have q3 : vb.frozen? ⟨nb + 1 + 1, 3, none⟩ = false := RB.out.res.free 3
    have r4 : vb.cell? ⟨nb + 1 + 1, 4, none⟩ = some (.bool false) := RB.out.res.cell 4
    have q4 : vb.frozen? ⟨nb + 1 + 1, 4, none⟩ = false := RB.out.res.free 4
    have r5 : vb.cell? ⟨nb + 1 + 1, 5, none⟩ = some (.slice none 0 0) := RB.out.res.cell 5
    have q5 : vb.frozen? ⟨nb + 1 + 1, 5, none⟩ = false := RB.out.res.free 5
    have r6 : vb.cell? ⟨nb + 1 + 1, 6, none⟩ = some (.int .i64 0) := RB.out.res.cell 6
    have q6 : vb.frozen? ⟨nb + 1 + 1, 6, none⟩ = false := RB.out.res.free 6
    go_wp2_with (fail)
    obtain ⟨hK, hO, hB⟩ := td_put RB.out (OwnE.nil _ n0) (1) _ rfl
    refine bodyPost_ret_by (results_cell_row rfl _ _ (nb + 1 + 1) 43 (tdC A c T none 0 ([]) (1)) (0, 0) _ rfl hK Tryd.underlying43 rfl size43) rfl ?_
    exact ⟨A, c, none, 0, rfl, hO.1, hO.2, hB⟩
open Go.RowKit
set_option maxRecDepth 100000 in
set_option maxHeartbeats 4000000 in
theorem refReg_new (n0 : Nat) (A : Option Addr) (c : Nat) (t : Tl) (m : Cm) (w : World) (ho : Own w n0 A c t.rs) (hn : n0 ≤ w.heap.size) (hm : t.rs.length ≤ 200) (hgq : m.ig = true ∨ m.ig = false ∧ (m.ke != keyR t.rs m.ho) = false) (hk : (m.nk != 0) = true) (hw : (keyR t.rs m.ho == 0) = true) (h16 : ((t.rs.length : Int) == 16) = false) (hs : m.ho.size ≤ maxLen) (T : Tl) (hT : setAp (newT t m) m = T) :
    Calls Tryd.prog 39 #[tlV A c t, cmV m] w (RdOut n0 w T ([]) (1)) := by
  have HT := Lib.hid hT
  have HG := Lib.hid hgq
  clear hT hgq
  have R0 := Lib.hid (RdAt.from w A c t m ho hn)
  have HM := Lib.hid (show t.rs.length ≤ maxLen by unfold maxLen; omega)
  have HM2 := Lib.hid hm
  have hnt := not_true
  have hnf := not_false
  obtain ⟨nb, hnb⟩ : ∃ nb, nb = w.heap.size := ⟨_, rfl⟩
  clear ho hn hm
  have HS := Lib.hid hs
  clear hs
  have HK := Lib.hid (fun v (hl2 : Rgs v A t.rs) => refKey_any A c t m.ho v hl2 HM.out)
  go_enter Tryd.func39, Tryd.ntmps39
  go_upto_region 1 with (fail)
  change Code.wp _ _ _ _ (((w.alloc (.cells (tlC A c t) 27)).alloc (.cells (cmC m) 37)).alloc (.cells tdZ 43))
  generalize ((w.alloc (.cells (tlC A c t) 27)).alloc (.cells (cmC m) 37)).alloc (.cells tdZ 43) = v0 at *
  rw [← hnb] at R0 ⊢
  clear hnb
  have c0 : v0.cell? ⟨nb, 0, none⟩ = some (.slice A t.rs.length c) := R0.out.box.cell 0
  have c1 : v0.cell? ⟨nb, 1, none⟩ = some (.int .i64 t.ty) := R0.out.box.cell 1
  have c2 : v0.cell? ⟨nb, 2, none⟩ = some (.string t.ho) := R0.out.box.cell 2
  have c3 : v0.cell? ⟨nb, 3, none⟩ = some (.int .u32 t.ge) := R0.out.box.cell 3
  have c4 : v0.cell? ⟨nb, 4, none⟩ = some (.bool t.ap) := R0.out.box.cell 4
  have m2 : v0.cell? ⟨nb + 1, 2, none⟩ = some (.string m.ho) := R0.out.cmd.cell 2
  go_wp2_with (fail)
  refine (HK.out _ R0.out.own.rgs).mono ?_; rintro e v1 ⟨rfl, hb⟩
  have R1 := Lib.hid (R0.out.below hb)
  clear c0 c1 c2 c3 c4 m2 hb
  have m8 : v1.cell? ⟨nb + 1, 8, none⟩ = some (.int .u64 m.ke) := R1.out.cmd.cell 8
  rcases HG.out with hg | ⟨hg, hq⟩
  all_goals
   have m12 : v1.cell? ⟨nb + 1, 12, none⟩ = some (.bool m.ig) := R1.out.cmd.cell 12
   rw [hg] at m12
   go_upto_region 5 with (fail)
   change Code.wp _ _ _ _ (v1.alloc (.cells (tdC none 0 zT none 0 [] 1) 43))
   have hal := (Below.refl v1.heap.size v1).alloc (Nat.le_refl _) (.cells (tdC none 0 zT none 0 [] 1) 43)
   have R2 := Lib.hid (R1.out.below hal); have HTD := Lib.hid (Blk.new v1 43 (tdC none 0 zT none 0 [] 1))
   obtain ⟨pt, hpt⟩ : ∃ pt, pt = v1.heap.size := ⟨_, rfl⟩
   rw [← hpt] at HTD ⊢
   have HPT := Lib.hid (show nb + 2 < pt by rw [hpt]; exact R1.out.res.lt)
   clear hal hpt m8 m12
   generalize v1.alloc (.cells (tdC none 0 zT none 0 [] 1) 43) = v2 at *
   have m9 : v2.cell? ⟨nb + 1, 9, none⟩ = some (.int .u64 m.nk) := R2.out.cmd.cell 9
   have m2 : v2.cell? ⟨nb + 1, 2, none⟩ = some (.string m.ho) := R2.out.cmd.cell 2
   have c0 : v2.cell? ⟨nb, 0, none⟩ = some (.slice A t.rs.length c) := R2.out.box.cell 0
   have k1 : ∀ v : World, (Instr.build 57 #[(0, .string m.ho), (1, .int .u64 m.nk)]).run Tryd.prog v = .ok (.agg #[.string m.ho, .int .u64 m.nk]) v := fun _ => by kernel_rfl
   have hal := (Below.refl v2.heap.size v2).alloc (Nat.le_refl _) (.cells (regC ⟨m.ho, m.nk⟩) 57)
   have R3 := Lib.hid (R2.out.below hal); have HTD3 := Lib.hid (HTD.out.below hal HTD.out.lt); have HRN := Lib.hid (rgs_new v2 ⟨m.ho, m.nk⟩ HS.out)
   have e0 : (v2.alloc (.cells (regC ⟨m.ho, m.nk⟩) 57)).cell? ⟨nb, 0, none⟩ = some (.slice A t.rs.length c) := R3.out.box.cell 0
   clear hal
   go_upto_region 9 with (at_builtin; refine wpList_append_rgs rfl (.tmp 39) (.tmp 45) rfl n0 A c t.rs rfl R3.out.own (some ⟨v2.heap.size, 0, none⟩) 1 [⟨m.ho, m.nk⟩] rfl HRN.out (by have := HM2.out; simp; omega) R3.out.lt ?_; intro A3 cc w3 hn3 hg3; have H3 := Lib.hid hn3; have HG3 := Lib.hid hg3; clear hn3 hg3; have b0 := R3.out.box.grown HG3.out (Ne.symm (own_apart R3.out.own.1 R3.out.box (by decide))); have f0 := b0.free 0; have b00 := b0.cell 0; clear b0)
   have R4 : RdAt n0 nb w (w3.setCell ⟨nb, 0, none⟩ (.slice A3 (t.rs.length + 1) cc)) A3 cc { t with rs := t.rs ++ [⟨m.ho, m.nk⟩] } m := by
     have hh := R3.out.rows (.inl HG3.out) H3.out
     rw [show (t.rs ++ [(⟨m.ho, m.nk⟩ : Rg)]).length = t.rs.length + 1 by simp] at hh
     exact hh
   have HR4 := Lib.hid R4
   have HTD4 := Lib.hid ((HTD3.out.grown HG3.out (Ne.symm (own_apart R3.out.own.1 HTD3.out (by decide)))).far (p := ⟨nb, 0, none⟩) (by have := HPT.out; show pt ≠ nb; omega) (.slice A3 (t.rs.length + 1) cc))
   clear R4 f0 b00 e0 c0 m9 m2 k1
   generalize w3.setCell ⟨nb, 0, none⟩ (.slice A3 (t.rs.length + 1) cc) = v4 at *
   have c3 : v4.cell? ⟨nb, 3, none⟩ = some (.int .u32 t.ge) := HR4.out.box.cell 3
   have f3 := HR4.out.box.free 3
   have hinc : IntKind.u32.wrap (t.ge + 1) = incG t.ge := rfl
   go_upto_region 24 with (fail)
   have R5 := Lib.hid (HR4.out.put 3 (.int .u32 (incG t.ge)) (t' := newT t m) rfl rfl)
   have HTD5 := Lib.hid (HTD4.out.far (p := ⟨nb, 3, none⟩) (by have := HPT.out; show pt ≠ nb; omega) (.int .u32 (incG t.ge)))
   clear c3 f3 hinc HTD
   have HTD := Lib.hid HTD5.out
   generalize v4.setCell ⟨nb, 3, none⟩ (.int .u32 (incG t.ge)) = v5 at *
   have m13 : v5.cell? ⟨nb + 1, 13, none⟩ = some (.int .i64 m.ap) := R5.out.cmd.cell 13
   rcases ap3 m with ⟨h1, h2⟩ | ⟨h1, h2⟩ | ⟨h1, h2⟩
   all_goals
    first
    | have hx : (m.ap == 2) = true := h2
      clear hx
      have c4 : v5.cell? ⟨nb, 4, none⟩ = some (.bool (newT t m).ap) := R5.out.box.cell 4
      have f4 : v5.frozen? ⟨nb, 4, none⟩ = false := R5.out.box.free 4
      go_upto_region 26 with (fail)
      have RA := Lib.hid (RdAt.as (R5.out.put 4 (.bool true) (t' := { ((newT t m)) with ap := true }) rfl rfl) ((sa2 h1 h2).symm.trans HT.out))
      have HTA := Lib.hid (HTD.out.far (p := ⟨nb, 4, none⟩) (by have := HPT.out; show pt ≠ nb; omega) (.bool true))
      clear c4 f4 m13
      generalize v5.setCell ⟨nb, 4, none⟩ (.bool true) = va at *
    | have hx : (m.ap == 1) = true := h1
      clear hx
      have c4 : v5.cell? ⟨nb, 4, none⟩ = some (.bool (newT t m).ap) := R5.out.box.cell 4
      have f4 : v5.frozen? ⟨nb, 4, none⟩ = false := R5.out.box.free 4
      go_upto_region 26 with (fail)
      have RA := Lib.hid (RdAt.as (R5.out.put 4 (.bool false) (t' := { ((newT t m)) with ap := false }) rfl rfl) ((sa1 h1).symm.trans HT.out))
      have HTA := Lib.hid (HTD.out.far (p := ⟨nb, 4, none⟩) (by have := HPT.out; show pt ≠ nb; omega) (.bool false))
      clear c4 f4 m13
      generalize v5.setCell ⟨nb, 4, none⟩ (.bool false) = va at *
    | go_upto_region 26 with (fail)
      have RA := Lib.hid (RdAt.as (R5.out) ((sa0 h1 h2).symm.trans HT.out))
      have HTA := Lib.hid HTD.out
      clear m13
      generalize hva : v5 = va at *
      clear hva
    have c0 : va.cell? ⟨nb, 0, none⟩ = some (.slice A3 T.rs.length cc) := RA.out.box.cell 0
    have c1 : va.cell? ⟨nb, 1, none⟩ = some (.int .i64 T.ty) := RA.out.box.cell 1
    have c2 : va.cell? ⟨nb, 2, none⟩ = some (.string T.ho) := RA.out.box.cell 2
    have c3 : va.cell? ⟨nb, 3, none⟩ = some (.int .u32 T.ge) := RA.out.box.cell 3
    have c4 : va.cell? ⟨nb, 4, none⟩ = some (.bool T.ap) := RA.out.box.cell 4
    have d0 : va.cell? ⟨pt, 0, none⟩ = some (.slice none 0 0) := HTA.out.cell 0
    have g0 : va.frozen? ⟨pt, 0, none⟩ = false := HTA.out.free 0
    have d1 : va.cell? ⟨pt, 1, none⟩ = some (.int .i64 0) := HTA.out.cell 1
    have g1 : va.frozen? ⟨pt, 1, none⟩ = false := HTA.out.free 1
    have d2 : va.cell? ⟨pt, 2, none⟩ = some (.string ⟨#[]⟩) := HTA.out.cell 2
    have g2 : va.frozen? ⟨pt, 2, none⟩ = false := HTA.out.free 2
    have d3 : va.cell? ⟨pt, 3, none⟩ = some (.int .u32 0) := HTA.out.cell 3
    have g3 : va.frozen? ⟨pt, 3, none⟩ = false := HTA.out.free 3
    have d4 : va.cell? ⟨pt, 4, none⟩ = some (.bool false) := HTA.out.cell 4
    have g4 : va.frozen? ⟨pt, 4, none⟩ = false := HTA.out.free 4
    go_upto_region 27 with (fail)
    obtain ⟨hTB, hTO⟩ := told_put (A := A3) (c := cc) (t := T) HTA.out _ rfl
    have RB := Lib.hid (RA.out.far HTA.out HPT.out hTO); have HTB := Lib.hid hTB
    clear hTB hTO c0 c1 c2 c3 c4 d0 d1 d2 d3 d4 g0 g1 g2 g3 g4
    generalize ((((va.setCell ⟨pt, 0, none⟩ (.slice A3 T.rs.length cc)).setCell ⟨pt, 1, none⟩ (.int .i64 T.ty)).setCell ⟨pt, 2, none⟩ (.string T.ho)).setCell ⟨pt, 3, none⟩ (.int .u32 T.ge)).setCell ⟨pt, 4, none⟩ (.bool T.ap) = vb at *
    have d0 : vb.cell? ⟨pt, 0, none⟩ = some (.slice A3 T.rs.length cc) := HTB.out.cell 0
    have d1 : vb.cell? ⟨pt, 1, none⟩ = some (.int .i64 T.ty) := HTB.out.cell 1
    have d2 : vb.cell? ⟨pt, 2, none⟩ = some (.string T.ho) := HTB.out.cell 2
    have d3 : vb.cell? ⟨pt, 3, none⟩ = some (.int .u32 T.ge) := HTB.out.cell 3
    have d4 : vb.cell? ⟨pt, 4, none⟩ = some (.bool T.ap) := HTB.out.cell 4
    have d5 : vb.cell? ⟨pt, 5, none⟩ = some (.slice none 0 0) := HTB.out.cell 5
    have d6 : vb.cell? ⟨pt, 6, none⟩ = some (.int .i64 1) := HTB.out.cell 6
    have r0 : vb.cell? ⟨nb + 1 + 1, 0, none⟩ = some (.slice none 0 0) := RB.out.res.cell 0
    have q0 : vb.frozen? ⟨nb + 1 + 1, 0, none⟩ = false := RB.out.res.free 0
    have r1 : vb.cell? ⟨nb + 1 + 1, 1, none⟩ = some (.int .i64 0) := RB.out.res.cell 1
    have q1 : vb.frozen? ⟨nb + 1 + 1, 1, none⟩ = false := RB.out.res.free 1
    have r2 : vb.cell? ⟨nb + 1 + 1, 2, none⟩ = some (.string ⟨#[]⟩) := RB.out.res.cell 2
    have q2 : vb.frozen? ⟨nb + 1 + 1, 2, none⟩ = false := RB.out.res.free 2
    have r3 : vb.cell? ⟨nb + 1 + 1, 3, none⟩ = some (.int .u32 0) := RB.out.res.cell 3
    have q3 : vb.frozen? ⟨nb + 1 + 1, 3, none⟩ = false := RB.out.res.free 3
    have r4 : vb.cell? ⟨nb + 1 + 1, 4, none⟩ = some (.bool false) := RB.out.res.cell 4
    have q4 : vb.frozen? ⟨nb + 1 + 1, 4, none⟩ = false := RB.out.res.free 4
    have r5 : vb.cell? ⟨nb + 1 + 1, 5, none⟩ = some (.slice none 0 0) := RB.out.res.cell 5
    have q5 : vb.frozen? ⟨nb + 1 + 1, 5, none⟩ = false := RB.out.res.free 5
    have r6 : vb.cell? ⟨nb + 1 + 1, 6, none⟩ = some (.int .i64 0) := RB.out.res.cell 6
    have q6 : vb.frozen? ⟨nb + 1 + 1, 6, none⟩ = false := RB.out.res.free 6
    go_wp2_with (fail)
    obtain ⟨hK, hO, hB⟩ := td_put RB.out (OwnE.nil _ n0) (1) _ rfl
    refine bodyPost_ret_by (results_cell_row rfl _ _ (nb + 1 + 1) 43 (tdC A3 cc T none 0 ([]) (1)) (0, 0) _ rfl hK Tryd.underlying43 rfl size43) rfl ?_
    exact ⟨A3, cc, none, 0, rfl, hO.1, hO.2, hB⟩
open Go.RowKit
theorem evs_put {n0 nb k i : Nat} {v : World} {B : Option Addr} {es : List Ev} {cs : Array Value} {x : Value} (he : OwnE v n0 B k es) (hb : Blk v nb 27 cs) : OwnE (v.setCell ⟨nb, i, none⟩ x) n0 B k es := by
  have hae : (Value.slice B es.length k).ownBlock ≠ some nb := own_apart he hb (by decide)
  exact own_keep he fun g hg => Below.heap_setCell v _ _ g (fun e => hae (hg.trans (congrArg some e)))
theorem evs_far {n0 p k : Nat} {v v' : World} {B : Option Addr} {es : List Ev} {cs : Array Value} (he : OwnE v n0 B k es) (hp : Blk v p 43 cs) (ho : Only (fun k => k = p) v v') : OwnE v' n0 B k es := by
  have hae : (Value.slice B es.length k).ownBlock ≠ some p := own_apart he hp (by decide)
  exact own_keep he fun g hg => ho.block g (he.lt g hg).2 (fun e => hae (hg.trans (congrArg some e)))
/-- Without a host. -/
def woT (t : Tl) (m : Cm) : Tl := { t with rs := t.rs.filter (fun r => !eqS r.h m.ho), ge := incG t.ge }
end Go.Proofs.YtgekadfkokkapaaDoor
