/- Whom a change tells. -/
import Derived.Test.YtgekadfkokkapaaDoorReF
namespace Go.Proofs.YtgekadfkokkapaaDoor
open Go.RowKit
theorem infoEv : (Tryd.prog.info? 48).map (fun i => (i.zero, i.size, i.bytes)) = some (some (.agg #[.string ⟨#[]⟩, .int .i64 0]), 2, 24) := by kernel_rfl
abbrev evC (y : Ev) : Array Value := #[.string y.h, .int .i64 y.y]
theorem run_append_ev (w : World) (ty : TypeId) (B : Nat) (A : Option Addr) (c : Nat) (l : List Ev) (hown : OwnE w B A c l) (b : Nat) (y : Ev) (hb : Blk w b 48 (evC y)) (hm : l.length ≤ 100000) (hB : B ≤ w.heap.size) :
    ∃ A' c' w', (Builtin.append_ #[39, 39] ty #[.slice A l.length c, .slice (some ⟨b, 0, none⟩) 1 1]).run Tryd.prog w = .ok (.slice A' (l.length + 1) c') w' ∧ OwnE w' B A' c' (l ++ [y]) ∧ w.grownBy w' (Value.slice A l.length c).ownBlock := by
  obtain ⟨i0, hi0, hz0, hz1, hz2⟩ := info_parts infoEv
  obtain ⟨v', w', h1, h2, h3, _, _⟩ := run_append_own_at (P := Tryd.prog) w B 39 ty 48 i0 _ 2 24 Tryd.underlying39 hi0 hz0 hz1 hz2 rfl (by omega) _ l.length _ hown ⟨b, 0, none⟩ 1 1 (evCells [y]) rfl (fun j u hu => by
    rw [Addr.add_lit, Nat.zero_add, hb.cell]
    match j, hu with
    | 0, hu => exact hu
    | 1, hu => exact hu) evCells_one (by unfold maxLen; omega) (by omega) hB
  obtain ⟨A', c', rfl⟩ := own_form h2
  refine ⟨A', c', w', h1, ?_, h3⟩
  unfold OwnE
  rw [List.length_append, evCells_append]
  exact h2
theorem step_ev {ops : Array Oper} {o : Oper} {a : Act} {w : World} {K : Act → World → Prop} {Q : Exit → Act → World → Prop} {E : Prop} (hgd : o.guard = none) (s x : Operand)
    (ho : o.op = .call { callee := .builtin .append, args := #[s, x], argTypes := #[39, 39] }) (B : Nat) (A : Option Addr) (c : Nat) (l : List Ev) (hs : a.eval s = .slice A l.length c) (hown : OwnE w B A c l)
    (b : Nat) (y : Ev) (hx : a.eval x = .slice (some ⟨b, 0, none⟩) 1 1) (hb : Blk w b 48 (evC y)) (hm : l.length ≤ 100000) (hB : B ≤ w.heap.size)
    (h : ∀ A' c' w', OwnE w' B A' c' (l ++ [y]) → w.grownBy w' (Value.slice A l.length c).ownBlock → K (a.put o.dst (.slice A' (l.length + 1) c')) w') :
    if Region.wanted o (yielded ops a.tmps) = true then Oper.wp Tryd.prog o a w K Q else E := by
  have hw : Region.wanted o (yielded ops a.tmps) = true := by simp [Region.wanted, hgd]
  rw [if_pos hw]
  obtain ⟨A', c', w', hr, h2, h3⟩ := run_append_ev w o.type B A c l hown b y hb hm hB
  unfold Oper.wp execOp
  simp only [ho, resolve, invoke, builtin, Sem.run_bind, Sem.run_pure, Result.andThen_ok, List.map_toArray, List.map_cons, List.map_nil, hs, hx, hr]
  exact h A' c' w' h2 h3
theorem step_clone {ops : Array Oper} {o : Oper} {a : Act} {w : World} {K : Act → World → Prop} {Q : Exit → Act → World → Prop} {E : Prop} (hgd : o.guard = none) (x : Operand)
    (ho : o.op = .call { callee := .value (.func 54), args := #[x], argTypes := #[9] }) (s : ByteArray) (hx : a.eval x = .string s) (hs : s.size ≤ 281474976710656)
    (h : ∀ w', Below w.heap.size w w' → K (a.put o.dst (.string s)) w') :
    if Region.wanted o (yielded ops a.tmps) = true then Oper.wp Tryd.prog o a w K Q else E := by
  have hw : Region.wanted o (yielded ops a.tmps) = true := by simp [Region.wanted, hgd]
  rw [if_pos hw]
  have hr : (execOp a.eval o).run Tryd.prog w = .ok (.enter 54 #[.string s]) w := by
    unfold execOp
    simp [ho, resolve, invoke, go_sem]
    revert hx
    cases x <;> simp [Act.eval]
  unfold Oper.wp
  rw [hr, Oper.upon_enter]
  refine (clone_any s w hs).mono ?_
  rintro e w' ⟨rfl, hb⟩
  exact h w' hb
/-- Those of a list whom a test means, told why. -/
def told (y : Int) (q : Rg → Bool) (l : List Rg) : List Ev := (l.filter q).map fun r => ⟨r.h, y⟩
theorem told_take (y : Int) (q : Rg → Bool) (l : List Rg) (k : Nat) (x : Rg) (hx : l[k]? = some x) : told y q (l.take (k + 1)) = told y q (l.take k) ++ (if q x then [⟨x.h, y⟩] else []) := by
  obtain ⟨hk, rfl⟩ := List.getElem?_eq_some_iff.1 hx
  unfold told
  rw [List.take_succ_eq_append_getElem hk, List.filter_append, List.map_append]
  congr 1
  by_cases h : q l[k] = true
  · rw [if_pos h, List.filter_cons_of_pos h]; rfl
  · rw [if_neg h, List.filter_cons_of_neg h]; rfl
theorem told_length (y : Int) (q : Rg → Bool) (l : List Rg) : (told y q l).length ≤ l.length := by
  unfold told
  rw [List.length_map]
  exact List.length_filter_le _ _
section
variable {w v : World} {n0 p : Nat} {A : Option Addr} {c : Nat} {t : Tl} {m : Cm} {B : Option Addr} {e : Nat} {es : List Ev}
/-- One more told. -/
theorem Chg.tell (h : Chg w n0 p A c t m B e es) {v : World} {B' : Option Addr} {e' : Nat} {es' : List Ev} (hg : w.grownBy v (Value.slice B es.length e).ownBlock) (ho : OwnE v n0 B' e' es') (hA : ∀ g, (Value.slice A t.rs.length c).ownBlock = some g → (Value.slice B es.length e).ownBlock ≠ some g) :
    Chg (v.setCell ⟨p, 19, none⟩ (.slice B' es'.length e')) n0 p A c t m B' e' es' ∧ Below n0 w (v.setCell ⟨p, 19, none⟩ (.slice B' es'.length e')) := by
  have hb := h.blk.grown hg (Ne.symm h.apart.2)
  have hr : Own v n0 A c t.rs := ⟨own_keep h.rgs.1 fun g hgg => hg.block g (h.rgs.1.lt g hgg).2 (Ne.symm (hA g hgg)), h.rgs.2⟩
  refine ⟨⟨hb.put 19 _, ⟨own_keep hr.1 fun g hgg => Below.heap_setCell v _ _ g (fun e => own_apart hr.1 hb (by decide) (hgg.trans (congrArg some e))), hr.2⟩, own_keep ho fun g hgg => Below.heap_setCell v _ _ g (fun e => own_apart ho hb (by decide) (hgg.trans (congrArg some e))), h.hp⟩, ?_⟩
  have b1 : Below n0 w v := (Only.of_below (S := fun k => (Value.slice B es.length e).ownBlock = some k) (Below.refl w.heap.size w)).grown hg (fun k hk => .inl hk) |>.toBelow h.lt (fun k hk => (h.evs.lt k hk).1)
  exact b1.trans (bel_put h.hp (Nat.le_trans h.lt hg.size) 19 _)
theorem Chg.rows (h : Chg w n0 p A c t m B e es) : ∀ g, (Value.slice A t.rs.length c).ownBlock = some g → (Value.slice B es.length e).ownBlock ≠ some g := by
  intro g hg hg'
  rcases h.rgs.1.2 with ⟨e1, _⟩ | ⟨g1, cap, cur, e1, _, hh, _⟩
  · rw [e1] at hg; simp [Value.ownBlock] at hg
  · rw [e1] at hg
    have e2 : g1 = g := by simpa [Value.ownBlock] using hg
    subst e2
    exact own_apart h.evs (t := 57) (cs := cur) hh (by decide) hg'
end
set_option maxRecDepth 100000 in
set_option maxHeartbeats 2000000 in
theorem notify_other (w : World) (n0 p : Nat) (A : Option Addr) (c : Nat) (t : Tl) (m : Cm) (B : Option Addr) (e : Nat) (es : List Ev) (y : Int) (h : Chg w n0 p A c t m B e es) (hx : ∀ x ∈ t.rs, x.h.size ≤ 1000) (hm : t.rs.length ≤ 1000) (he : es.length ≤ 1000) :
    Calls Tryd.prog 73 #[.pointer (some ⟨p, 0, none⟩), .int .i64 y, .func (.func 74) #[.pointer (some ⟨p, 0, none⟩)] #[]] w fun e w' => e = .returned (.tuple #[]) ∧ WrO n0 p t m (es ++ told y (isO m) t.rs) w w' := by
  have c0 := h.at_.r.rs
  have HQ := Lib.hid (fun v B' e' es' (hv : ChAt v p A c t m B' e' es') (x : Rg) => isOther_any x v p A c t m B' e' es' hv)
  have H := Lib.hid h; have HX := Lib.hid hx; have HEL := Lib.hid he
  clear h hx he
  obtain ⟨q, hq⟩ : ∃ q, q = (isO m) := ⟨_, rfl⟩
  rw [← hq] at HQ
  rw [← hq]
  clear hq
  go_enter Tryd.func73, Tryd.ntmps73
  go_wp2_with (fail)
  go_loopw [14] (fun i wr => ∃ k : Nat, k ≤ t.rs.length ∧ i = .int .i64 k ∧ Hid (∃ B' e', Chg wr n0 p A c t m B' e' (es ++ told y q (t.rs.take k)) ∧ Below n0 w wr)) (fun i _ => t.rs.length - (intOf i).toNat)
  case atStart => exact ⟨0, Nat.zero_le _, rfl, Lib.hid ⟨B, e, by show Chg w n0 p A c t m B e (es ++ []); rw [List.append_nil]; exact H.out, Below.refl _ _⟩⟩
  case round =>
    obtain ⟨k, hk, rfl, HR⟩ := hrel
    obtain ⟨B1, e1, hc1, hb1⟩ := HR.out
    have H1 := Lib.hid hc1; have HB1 := Lib.hid hb1
    clear hc1 hb1 HR
    by_cases hlt : k < t.rs.length
    · obtain ⟨b, o, x, rfl, hx, hz, d0, d1⟩ := (H1.out.rgs.rgs.at_ hlt)
      have HXS := Lib.hid (HX.out x (List.mem_of_getElem? hx))
      have HTK := Lib.hid (told_take y q t.rs k x hx); clear hx
      obtain ⟨g1, g2, g3⟩ := rg_box wr x _ rfl
      have HBx := Lib.hid g1; have H2 := Lib.hid (H1.out.below g2); have HB2 := Lib.hid (HB1.out.trans (g2.mono H1.out.lt))
      clear g1 g2 g3 c0
      go_upto_region 3 with (fail)
      change Code.wp _ _ _ _ (wr.alloc (.cells (regC x) 57))
      generalize wr.alloc (.cells (regC x) 57) = w2 at *
      have k0 : w2.cell? ⟨wr.heap.size, 0, none⟩ = some (.string x.h) := HBx.out.cell 0
      have k1 : w2.cell? ⟨wr.heap.size, 1, none⟩ = some (.int .u64 x.k) := HBx.out.cell 1
      clear d0 d1
      have HQ2 := Lib.hid (HQ.out _ _ _ _ H2.out.at_ x)
      cases hqx : q x with
      | false =>
        rw [hqx] at HQ2 HTK
        clear hqx
        go_wp2_with (fail)
        refine HQ2.out.mono ?_; rintro e w3 ⟨rfl, hb3⟩
        have H3 := Lib.hid (H2.out.below hb3); have HB3 := Lib.hid (HB2.out.trans (hb3.mono H2.out.lt))
        clear hb3 k0 k1
        go_wp2_with (fail)
        go_roundw
        case rel => exact ⟨k + 1, by omega, by go_num, Lib.hid ⟨B1, e1, by rw [HTK.out]; simpa using H3.out, HB3.out⟩⟩
        case measure => simp [intOf]; omega
      | true =>
        rw [hqx] at HQ2 HTK
        clear hqx
        go_wp2_with (fail)
        refine HQ2.out.mono ?_; rintro e w3 ⟨rfl, hb3⟩
        have H3 := Lib.hid (H2.out.below hb3); have HB3 := Lib.hid (HB2.out.trans (hb3.mono H2.out.lt))
        have HBx3 := Lib.hid (HBx.out.below hb3 HBx.out.lt)
        clear hb3 k0 k1
        have k0 : w3.cell? ⟨wr.heap.size, 0, none⟩ = some (.string x.h) := HBx3.out.cell 0
        have e19 : w3.cell? ⟨p, 19, none⟩ = some (.slice B1 (es ++ told y q (t.rs.take k)).length e1) := H3.out.blk.cell 19
        have HLn : Hid ((es ++ told y q (t.rs.take k)).length ≤ 2000) := by
          have a1 := told_length y q (t.rs.take k)
          have a2 := HEL.out
          have a3 : (t.rs.take k).length ≤ k := by rw [List.length_take]; exact Nat.min_le_left _ _
          show (es ++ told y q (t.rs.take k)).length ≤ 2000
          rw [List.length_append]
          omega
        have HTE := Lib.hid (show es ++ told y q (t.rs.take (k + 1)) = (es ++ told y q (t.rs.take k)) ++ [⟨x.h, y⟩] from by rw [HTK.out]; simp)
        clear HTK
        generalize es ++ told y q (t.rs.take k) = ek at *
        go_upto_region 4 with (fail)
        go_region_law (first
          | (refine step_clone (by rfl) (.tmp 27) (by rfl) x.h (by rfl) (by have := HXS.out; omega) ?_
             intro w5 hb5
             have H5 := Lib.hid (H3.out.below ((Below.refl w3.heap.size w3).drew.trans hb5)); have HB5 := Lib.hid (HB3.out.trans (((Below.refl w3.heap.size w3).drew.trans hb5).mono H3.out.lt))
             have e5 : w5.cell? ⟨p, 19, none⟩ = some (.slice B1 ek.length e1) := H5.out.blk.cell 19
             have hal := (Below.refl w5.heap.size w5).alloc (Nat.le_refl _) (.cells (evC ⟨x.h, y⟩) 48)
             have H6 := Lib.hid (H5.out.below hal); have HB6 := Lib.hid (HB5.out.trans (hal.mono H5.out.lt))
             have e6 : (w5.alloc (.cells (evC ⟨x.h, y⟩) 48)).cell? ⟨p, 19, none⟩ = some (.slice B1 ek.length e1) := H6.out.blk.cell 19
             clear hb5 hal)
          | (refine step_ev (by rfl) (.tmp 25) (.tmp 31) (by rfl) n0 B1 e1 ek (by rfl) H6.out.evs w5.heap.size ⟨x.h, y⟩ (by rfl) (Blk.new w5 48 _) (by have := HLn.out; omega) H6.out.lt ?_
             intro A7 c7 w7 ho7 hg7
             have b7 := H6.out.blk.grown hg7 (Ne.symm H6.out.apart.2)
             have f7 := b7.free 19
             have e7 : w7.cell? ⟨p, 19, none⟩ = some (.slice B1 ek.length e1) := b7.cell 19
             have H7 := Lib.hid (H6.out.tell hg7 ho7 H6.out.rows)
             clear ho7 hg7 b7))
        all_goals (
          go_wp2_with (fail)
          go_roundw
          case rel => exact ⟨k + 1, by omega, by go_num, Lib.hid ⟨A7, c7, by rw [HTE.out]; have := H7.out.1; simpa using this, HB6.out.trans (by have := H7.out.2; simpa using this)⟩⟩
          case measure => simp [intOf]; omega)
    · obtain rfl : k = t.rs.length := by omega
      go_wp2_with (fail)
      go_end0
      have := H1.out
      rw [List.take_length] at this
      exact ⟨rfl, A, c, B1, e1, this, HB1.out⟩
set_option maxRecDepth 100000 in
set_option maxHeartbeats 2000000 in
theorem notify_rem (w : World) (n0 p : Nat) (A : Option Addr) (c : Nat) (t : Tl) (m : Cm) (B : Option Addr) (e : Nat) (es : List Ev) (y : Int) (h : Chg w n0 p A c t m B e es) (hx : ∀ x ∈ t.rs, x.h.size ≤ 1000) (hm : t.rs.length ≤ 1000) (he : es.length ≤ 1000) :
    Calls Tryd.prog 73 #[.pointer (some ⟨p, 0, none⟩), .int .i64 y, .func (.func 77) #[.pointer (some ⟨p, 0, none⟩)] #[]] w fun e w' => e = .returned (.tuple #[]) ∧ WrO n0 p t m (es ++ told y (isR t m) t.rs) w w' := by
  have c0 := h.at_.r.rs
  have HQ := Lib.hid (fun v B' e' es' (hv : ChAt v p A c t m B' e' es') (x : Rg) => removes_any x v p A c t m B' e' es' hv)
  have H := Lib.hid h; have HX := Lib.hid hx; have HEL := Lib.hid he
  clear h hx he
  obtain ⟨q, hq⟩ : ∃ q, q = (isR t m) := ⟨_, rfl⟩
  rw [← hq] at HQ
  rw [← hq]
  clear hq
  go_enter Tryd.func73, Tryd.ntmps73
  go_wp2_with (fail)
  go_loopw [14] (fun i wr => ∃ k : Nat, k ≤ t.rs.length ∧ i = .int .i64 k ∧ Hid (∃ B' e', Chg wr n0 p A c t m B' e' (es ++ told y q (t.rs.take k)) ∧ Below n0 w wr)) (fun i _ => t.rs.length - (intOf i).toNat)
  case atStart => exact ⟨0, Nat.zero_le _, rfl, Lib.hid ⟨B, e, by show Chg w n0 p A c t m B e (es ++ []); rw [List.append_nil]; exact H.out, Below.refl _ _⟩⟩
  case round =>
    obtain ⟨k, hk, rfl, HR⟩ := hrel
    obtain ⟨B1, e1, hc1, hb1⟩ := HR.out
    have H1 := Lib.hid hc1; have HB1 := Lib.hid hb1
    clear hc1 hb1 HR
    by_cases hlt : k < t.rs.length
    · obtain ⟨b, o, x, rfl, hx, hz, d0, d1⟩ := (H1.out.rgs.rgs.at_ hlt)
      have HXS := Lib.hid (HX.out x (List.mem_of_getElem? hx))
      have HTK := Lib.hid (told_take y q t.rs k x hx); clear hx
      obtain ⟨g1, g2, g3⟩ := rg_box wr x _ rfl
      have HBx := Lib.hid g1; have H2 := Lib.hid (H1.out.below g2); have HB2 := Lib.hid (HB1.out.trans (g2.mono H1.out.lt))
      clear g1 g2 g3 c0
      go_upto_region 3 with (fail)
      change Code.wp _ _ _ _ (wr.alloc (.cells (regC x) 57))
      generalize wr.alloc (.cells (regC x) 57) = w2 at *
      have k0 : w2.cell? ⟨wr.heap.size, 0, none⟩ = some (.string x.h) := HBx.out.cell 0
      have k1 : w2.cell? ⟨wr.heap.size, 1, none⟩ = some (.int .u64 x.k) := HBx.out.cell 1
      clear d0 d1
      have HQ2 := Lib.hid (HQ.out _ _ _ _ H2.out.at_ x)
      cases hqx : q x with
      | false =>
        rw [hqx] at HQ2 HTK
        clear hqx
        go_wp2_with (fail)
        refine HQ2.out.mono ?_; rintro e w3 ⟨rfl, hb3⟩
        have H3 := Lib.hid (H2.out.below hb3); have HB3 := Lib.hid (HB2.out.trans (hb3.mono H2.out.lt))
        clear hb3 k0 k1
        go_wp2_with (fail)
        go_roundw
        case rel => exact ⟨k + 1, by omega, by go_num, Lib.hid ⟨B1, e1, by rw [HTK.out]; simpa using H3.out, HB3.out⟩⟩
        case measure => simp [intOf]; omega
      | true =>
        rw [hqx] at HQ2 HTK
        clear hqx
        go_wp2_with (fail)
        refine HQ2.out.mono ?_; rintro e w3 ⟨rfl, hb3⟩
        have H3 := Lib.hid (H2.out.below hb3); have HB3 := Lib.hid (HB2.out.trans (hb3.mono H2.out.lt))
        have HBx3 := Lib.hid (HBx.out.below hb3 HBx.out.lt)
        clear hb3 k0 k1
        have k0 : w3.cell? ⟨wr.heap.size, 0, none⟩ = some (.string x.h) := HBx3.out.cell 0
        have e19 : w3.cell? ⟨p, 19, none⟩ = some (.slice B1 (es ++ told y q (t.rs.take k)).length e1) := H3.out.blk.cell 19
        have HLn : Hid ((es ++ told y q (t.rs.take k)).length ≤ 2000) := by
          have a1 := told_length y q (t.rs.take k)
          have a2 := HEL.out
          have a3 : (t.rs.take k).length ≤ k := by rw [List.length_take]; exact Nat.min_le_left _ _
          show (es ++ told y q (t.rs.take k)).length ≤ 2000
          rw [List.length_append]
          omega
        have HTE := Lib.hid (show es ++ told y q (t.rs.take (k + 1)) = (es ++ told y q (t.rs.take k)) ++ [⟨x.h, y⟩] from by rw [HTK.out]; simp)
        clear HTK
        generalize es ++ told y q (t.rs.take k) = ek at *
        go_upto_region 4 with (fail)
        go_region_law (first
          | (refine step_clone (by rfl) (.tmp 27) (by rfl) x.h (by rfl) (by have := HXS.out; omega) ?_
             intro w5 hb5
             have H5 := Lib.hid (H3.out.below ((Below.refl w3.heap.size w3).drew.trans hb5)); have HB5 := Lib.hid (HB3.out.trans (((Below.refl w3.heap.size w3).drew.trans hb5).mono H3.out.lt))
             have e5 : w5.cell? ⟨p, 19, none⟩ = some (.slice B1 ek.length e1) := H5.out.blk.cell 19
             have hal := (Below.refl w5.heap.size w5).alloc (Nat.le_refl _) (.cells (evC ⟨x.h, y⟩) 48)
             have H6 := Lib.hid (H5.out.below hal); have HB6 := Lib.hid (HB5.out.trans (hal.mono H5.out.lt))
             have e6 : (w5.alloc (.cells (evC ⟨x.h, y⟩) 48)).cell? ⟨p, 19, none⟩ = some (.slice B1 ek.length e1) := H6.out.blk.cell 19
             clear hb5 hal)
          | (refine step_ev (by rfl) (.tmp 25) (.tmp 31) (by rfl) n0 B1 e1 ek (by rfl) H6.out.evs w5.heap.size ⟨x.h, y⟩ (by rfl) (Blk.new w5 48 _) (by have := HLn.out; omega) H6.out.lt ?_
             intro A7 c7 w7 ho7 hg7
             have b7 := H6.out.blk.grown hg7 (Ne.symm H6.out.apart.2)
             have f7 := b7.free 19
             have e7 : w7.cell? ⟨p, 19, none⟩ = some (.slice B1 ek.length e1) := b7.cell 19
             have H7 := Lib.hid (H6.out.tell hg7 ho7 H6.out.rows)
             clear ho7 hg7 b7))
        all_goals (
          go_wp2_with (fail)
          go_roundw
          case rel => exact ⟨k + 1, by omega, by go_num, Lib.hid ⟨A7, c7, by rw [HTE.out]; have := H7.out.1; simpa using this, HB6.out.trans (by have := H7.out.2; simpa using this)⟩⟩
          case measure => simp [intOf]; omega)
    · obtain rfl : k = t.rs.length := by omega
      go_wp2_with (fail)
      go_end0
      have := H1.out
      rw [List.take_length] at this
      exact ⟨rfl, A, c, B1, e1, this, HB1.out⟩
end Go.Proofs.YtgekadfkokkapaaDoor
