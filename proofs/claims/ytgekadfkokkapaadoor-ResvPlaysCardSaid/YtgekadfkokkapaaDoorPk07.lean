/- All registrations that a test means taken out of a row in place: slices.DeleteFunc. Who asks is registered no more. -/
import Derived.Test.YtgekadfkokkapaaDoorPk06
namespace Go.Proofs.YtgekadfkokkapaaDoor
open Go.RowKit
/-- Those that stay. -/
abbrev staysR (t : Tl) (m : Cm) : Rg → Bool := fun r => !isR t m r
theorem filter_take (q : Rg → Bool) (l : List Rg) (k : Nat) (x : Rg) (hx : l[k]? = some x) : (l.take (k + 1)).filter q = (l.take k).filter q ++ (if q x then [x] else []) := by
  obtain ⟨hk, rfl⟩ := List.getElem?_eq_some_iff.1 hx
  rw [List.take_succ_eq_append_getElem hk, List.filter_append]
  congr 1
  by_cases h : q l[k] = true
  · rw [if_pos h, List.filter_cons_of_pos h]; rfl
  · rw [if_neg h, List.filter_cons_of_neg h]; rfl
theorem filter_none {q : Rg → Bool} {l : List Rg} (h : l.any q = false) : l.filter (fun r => !q r) = l := by
  rw [List.filter_eq_self]
  intro x hx
  have := (List.any_eq_false.1 h) x hx
  simpa using this
/-- How far DeleteFunc is. -/
structure DelAt (w wr : World) (g p : Nat) (c : Nat) (t : Tl) (m : Cm) (B : Option Addr) (e : Nat) (es : List Ev) (i j : Nat) (l : List Rg) : Prop where
  row : RowR wr g c l
  len : l.length = t.rs.length
  at_ : ChAt wr p (some ⟨g, 0, none⟩) c { t with rs := l } m B e es
  tk : l.take i = (t.rs.take j).filter (staysR t m)
  dr : l.drop j = t.rs.drop j
  hi : i = ((t.rs.take j).filter (staysR t m)).length
  ij : i < j
  jn : j ≤ t.rs.length
  on : Only (fun k => k = g) w wr
theorem DelAt.below {w wr v : World} {g p : Nat} {c : Nat} {t : Tl} {m : Cm} {B : Option Addr} {e : Nat} {es : List Ev} {i j : Nat} {l : List Rg} (h : DelAt w wr g p c t m B e es i j l) (hb : Below wr.heap.size wr v) : DelAt w v g p c t m B e es i j l :=
  ⟨h.row.below hb, h.len, h.at_.below hb, h.tk, h.dr, h.hi, h.ij, h.jn, h.on.below hb⟩
theorem DelAt.skip {w wr : World} {g p : Nat} {c : Nat} {t : Tl} {m : Cm} {B : Option Addr} {e : Nat} {es : List Ev} {i j : Nat} {l : List Rg} (h : DelAt w wr g p c t m B e es i j l) {x : Rg} (hx : t.rs[j]? = some x) (hq : isR t m x = true) : DelAt w wr g p c t m B e es i (j + 1) l := by
  have hlt := (List.getElem?_eq_some_iff.1 hx).1
  have ef : (t.rs.take (j + 1)).filter (staysR t m) = (t.rs.take j).filter (staysR t m) := by
    rw [filter_take _ _ _ _ hx, if_neg (by show ¬ (!isR t m x) = true; rw [hq]; decide), List.append_nil]
  refine ⟨h.row, h.len, h.at_, by rw [ef]; exact h.tk, ?_, by rw [ef]; exact h.hi, by have := h.ij; omega, hlt, h.on⟩
  have := congrArg (fun z => z.drop 1) h.dr
  simpa [List.drop_drop, Nat.add_comm] using this
theorem DelAt.lay {w wr : World} {g p : Nat} {c : Nat} {t : Tl} {m : Cm} {B : Option Addr} {e : Nat} {es : List Ev} {i j : Nat} {l : List Rg} (h : DelAt w wr g p c t m B e es i j l) {x : Rg} (hx : t.rs[j]? = some x) (hq : isR t m x = false) (hs : x.h.size ≤ maxLen) (hsl : ∀ y ∈ l, y.h.size ≤ maxLen) :
    DelAt w ((wr.setCell ⟨g, i * 2, none⟩ (.string x.h)).setCell ⟨g, i * 2 + 1, none⟩ (.int .u64 x.k)) g p c t m B e es (i + 1) (j + 1) (l.set i x) ∧ ∀ y ∈ l.set i x, y.h.size ≤ maxLen := by
  have hlt := (List.getElem?_eq_some_iff.1 hx).1
  have hij := h.ij
  have hil : i < l.length := by rw [h.len]; omega
  have ef : (t.rs.take (j + 1)).filter (staysR t m) = (t.rs.take j).filter (staysR t m) ++ [x] := by
    rw [filter_take _ _ _ _ hx, if_pos (by show (!isR t m x) = true; rw [hq]; rfl)]
  have hpg : p ≠ g := fun e => by
    obtain ⟨junk, hb, _⟩ := h.row
    exact h.at_.blk.apart hb (by decide) e
  have hs2 : ∀ y ∈ l.set i x, y.h.size ≤ maxLen := fun y hy => (List.mem_or_eq_of_mem_set hy).elim (hsl y) (fun e => e ▸ hs)
  have hr := h.row.put i x hil
  refine ⟨⟨hr, by rw [List.length_set]; exact h.len, ⟨?_, hr.rgs hs2⟩, ?_, ?_, ?_, by omega, hlt, (h.on.setCell (.inl rfl) _).setCell (.inl rfl) _⟩, hs2⟩
  · have := (h.at_.blk.far (p := ⟨g, i * 2, none⟩) hpg (.string x.h)).far (p := ⟨g, i * 2 + 1, none⟩) hpg (.int .u64 x.k)
    unfold chC at this ⊢
    simp only [List.length_set]
    exact this
  · rw [ef, ← h.tk, List.take_set]
    apply List.ext_getElem?
    intro k
    by_cases hk : k < i
    · rw [List.getElem?_set_ne (by omega), List.getElem?_append_left (by rw [List.length_take]; omega), List.getElem?_take, List.getElem?_take, if_pos (by omega), if_pos hk]
    · by_cases hki : k = i
      · subst hki
        rw [List.getElem?_set_self (by rw [List.length_take]; omega), List.getElem?_append_right (by rw [List.length_take]; omega), List.length_take, Nat.min_eq_left (by omega), Nat.sub_self]
        rfl
      · rw [List.getElem?_eq_none (by rw [List.length_set, List.length_take]; omega), List.getElem?_eq_none (by rw [List.length_append, List.length_take, List.length_singleton]; omega)]
  · rw [List.drop_set, if_pos (by omega)]
    have := congrArg (fun z => z.drop 1) h.dr
    simpa [List.drop_drop, Nat.add_comm] using this
  · rw [ef, List.length_append, ← h.hi]; rfl
theorem DelAt.start {w w1 : World} {g p : Nat} {c : Nat} {t : Tl} {m : Cm} {B : Option Addr} {e : Nat} {es : List Ev} {k : Nat} {x : Rg} (hr : RowR w g c t.rs) (h : ChAt w p (some ⟨g, 0, none⟩) c t m B e es) (hb : Below w.heap.size w w1) (hk : k = t.rs.findIdx (isR t m)) (hx : t.rs[k]? = some x) (hq : isR t m x = true) :
    DelAt w w1 g p c t m B e es k (k + 1) t.rs := by
  have hlt := (List.getElem?_eq_some_iff.1 hx).1
  have e1 : (t.rs.take k).filter (staysR t m) = t.rs.take k := by
    rw [List.filter_eq_self]
    intro y hy
    obtain ⟨i, hi, rfl⟩ := List.getElem_of_mem hy
    rw [List.length_take] at hi
    have hik : i < k := by omega
    rw [hk] at hik
    have := List.not_of_lt_findIdx hik
    rw [List.getElem_take]
    have hv : isR t m t.rs[i] = false := by
      first
        | exact this
        | exact Bool.eq_false_iff.2 this
    exact (congrArg (fun b => !b) hv)
  have ef : (t.rs.take (k + 1)).filter (staysR t m) = t.rs.take k := by
    rw [filter_take _ _ _ _ hx, if_neg (by show ¬ (!isR t m x) = true; rw [hq]; decide), List.append_nil, e1]
  exact ⟨hr.below hb, rfl, h.below hb, by rw [ef], rfl, by rw [ef, List.length_take]; omega, by omega, hlt, Only.of_below hb⟩
set_option maxRecDepth 100000 in
set_option maxHeartbeats 4000000 in
theorem deleteF_any (w : World) (g p : Nat) (c : Nat) (t : Tl) (m : Cm) (B : Option Addr) (e : Nat) (es : List Ev) (hr : RowR w g c t.rs) (h : ChAt w p (some ⟨g, 0, none⟩) c t m B e es) (hs : ∀ y ∈ t.rs, y.h.size ≤ maxLen) (hm : t.rs.length ≤ 1000) :
    Calls Tryd.prog 78 #[.slice (some ⟨g, 0, none⟩) t.rs.length c, .func (.func 77) #[.pointer (some ⟨p, 0, none⟩)] #[]] w fun e w' => e = .returned (.slice (some ⟨g, 0, none⟩) (t.rs.filter (staysR t m)).length c) ∧ RowR w' g c (t.rs.filter (staysR t m)) ∧ Only (fun k => k = g) w w' := by
  have HI := Lib.hid (index_rem (some ⟨g, 0, none⟩) c t.rs p (some ⟨g, 0, none⟩) c t m B e es w h.rgs (by unfold maxLen; omega) h)
  have hle := hr.le
  cases ha : t.rs.any (isR t m) with
  | false =>
    rw [findQ_none ha] at HI
    have HF := Lib.hid (filter_none ha)
    have HR := Lib.hid hr
    clear hr h hs ha
    go_enter Tryd.func78, Tryd.ntmps78
    go_wp2_with (fail)
    refine HI.out.mono ?_; rintro e w1 ⟨rfl, hb1⟩
    go_wp2_with (fail)
    go_ret
    refine ⟨?_, ?_, Only.of_below hb1⟩
    · show Ending.returned (Value.slice _ _ _) = Ending.returned (Value.slice _ (t.rs.filter (fun r => !isR t m r)).length _)
      rw [HF.out]
    · show RowR w1 g c (t.rs.filter (fun r => !isR t m r))
      rw [HF.out]
      exact HR.out.below hb1
  | true =>
    obtain ⟨k, x0, hf, hx0, hq0, hk0⟩ := findQ_some ha
    rw [hf] at HI
    have HST := Lib.hid (fun w1 (hb : Below w.heap.size w w1) => DelAt.start (w1 := w1) hr h hb hk0 hx0 hq0)
    have HS := Lib.hid hs
    have hkn := (List.getElem?_eq_some_iff.1 hx0).1
    have hk1 : ((k : Nat) : Int) ≠ -1 := by omega
    have hk2 : (((k : Nat) : Int) == -1) = false := by rw [int_beq]; exact decide_eq_false hk1
    clear hr h hs ha hf hx0 hq0 hk0
    go_enter Tryd.func78, Tryd.ntmps78
    go_wp2_with (fail)
    refine HI.out.mono ?_; rintro e w1 ⟨rfl, hb1⟩
    have H0 := Lib.hid (HST.out w1 hb1); clear hb1 HST HI
    go_wp2_with (fail)
    go_loopw [5, 6] (fun u v wr => ∃ (i j : Nat) (l : List Rg), u = .int .i64 i ∧ v = .int .i64 j ∧ j ≤ t.rs.length ∧ i < j ∧ Hid (DelAt w wr g p c t m B e es i j l ∧ ∀ y ∈ l, y.h.size ≤ maxLen)) (fun _ v _ => t.rs.length - (intOf v).toNat)
    case atStart => exact ⟨k, k + 1, t.rs, rfl, by go_num, by omega, by omega, Lib.hid ⟨H0.out, HS.out⟩⟩
    case round =>
      obtain ⟨i, j, l, rfl, rfl, hjn, hij, HD⟩ := hrel
      by_cases hlt : j < t.rs.length
      · have hx : t.rs[j]? = some t.rs[j] := List.getElem?_eq_getElem hlt
        have hlx : l[j]? = some t.rs[j] := by
          have := congrArg (fun z => z[0]?) HD.out.1.dr
          simpa [List.getElem?_drop, hx] using this
        obtain ⟨d0, d1⟩ := HD.out.1.row.cells hlx
        have HX := Lib.hid hx
        have HXs := Lib.hid (HS.out _ (List.getElem_mem hlt))
        have HLe := Lib.hid HD.out.1.row.le
        have HLl := Lib.hid HD.out.1.len
        generalize t.rs[j] = x at *
        clear hx hlx
        obtain ⟨g1, g2, g3⟩ := rg_box wr x _ rfl
        have HBx := Lib.hid g1; have H2 := Lib.hid (HD.out.1.below g2); have HSl := Lib.hid HD.out.2
        clear g1 g2 g3 HD
        go_upto_region 8 with (fail)
        change Code.wp _ _ _ _ (wr.alloc (.cells (regC x) 57))
        generalize wr.alloc (.cells (regC x) 57) = w2 at *
        have k0 : w2.cell? ⟨wr.heap.size, 0, none⟩ = some (.string x.h) := HBx.out.cell 0
        have k1 : w2.cell? ⟨wr.heap.size, 1, none⟩ = some (.int .u64 x.k) := HBx.out.cell 1
        clear d0 d1
        have HQ := Lib.hid (removes_any x w2 p (some ⟨g, 0, none⟩) c { t with rs := l } m B e es H2.out.at_)
        have hqe : isR { t with rs := l } m x = isR t m x := rfl
        rw [hqe] at HQ
        clear hqe
        cases hq : isR t m x with
        | true =>
          rw [hq] at HQ
          have H3 := Lib.hid (H2.out.skip HX.out hq)
          clear hq
          go_wp2_with (fail)
          refine HQ.out.mono ?_; rintro e w3 ⟨rfl, hb3⟩
          have H4 := Lib.hid (H3.out.below hb3)
          clear hb3 k0 k1
          go_wp2_with (fail)
          go_roundw
          case rel => exact ⟨i, j + 1, l, rfl, by go_num, by omega, by omega, Lib.hid ⟨H4.out, HSl.out⟩⟩
          case measure => simp [intOf]; omega
        | false =>
          rw [hq] at HQ
          have HQQ := Lib.hid hq
          clear hq
          go_wp2_with (fail)
          refine HQ.out.mono ?_; rintro e w3 ⟨rfl, hb3⟩
          have H3 := Lib.hid (H2.out.below hb3)
          have HBx3 := Lib.hid (HBx.out.below hb3 HBx.out.lt)
          clear hb3 k0 k1
          have k0 : w3.cell? ⟨wr.heap.size, 0, none⟩ = some (.string x.h) := HBx3.out.cell 0
          have k1 : w3.cell? ⟨wr.heap.size, 1, none⟩ = some (.int .u64 x.k) := HBx3.out.cell 1
          have f0 := H3.out.row.free (i * 2)
          have f1 := H3.out.row.free (i * 2 + 1)
          have hil : i < l.length := by have := HLl.out; omega
          obtain ⟨c0, c1⟩ := H3.out.row.cells (List.getElem?_eq_getElem hil)
          have hii : (i : Int) < t.rs.length := by omega
          have H4 := Lib.hid (H3.out.lay HX.out HQQ.out HXs.out HSl.out)
          go_wp2_with (fail)
          go_roundw
          case rel => exact ⟨i + 1, j + 1, _, by go_num, by go_num, by omega, by omega, Lib.hid H4.out⟩
          case measure => simp [intOf]; omega
      · obtain rfl : j = t.rs.length := by omega
        have hlen := HD.out.1.len
        obtain ⟨w6, hcl, hr6, ho6⟩ := run_clear_rgs wr 0 g c (c - i) l HD.out.1.row i (t.rs.length - i) (by omega) (by omega)
        have R6 := Lib.hid hr6; have O6 := Lib.hid (HD.out.1.on.trans ho6 (fun _ hk => .inl hk)); clear hr6 ho6
        have htk := HD.out.1.tk; have hhi := HD.out.1.hi
        rw [List.take_length] at htk hhi
        have HTK := Lib.hid htk; have HHI := Lib.hid hhi
        clear htk hhi
        have q1 : i ≤ t.rs.length := by omega
        have q2 : ¬ c = i := by omega
        have q3 : i ≤ c := by omega
        go_wp2_with (fail)
        go_ret
        refine ⟨by rw [← HHI.out]; rfl, ?_, O6.out⟩
        have := R6.out.take i
        rw [List.take_append_of_le_length (by rw [List.length_take]; omega), List.take_take, Nat.min_self, HTK.out] at this
        exact this
open Go.RowKit
section
variable {w v : World} {n0 p : Nat} {A : Option Addr} {c : Nat} {t : Tl} {m : Cm} {B : Option Addr} {e : Nat} {es : List Ev}
/-- The registrations made others. -/
theorem Chg.rows_put (h : Chg w n0 p A c t m B e es) (ho : Only (fun k => (Value.slice A t.rs.length c).ownBlock = some k) w v) {A' : Option Addr} {c' : Nat} {l' : List Rg} (hw : Own v n0 A' c' l') :
    Chg (v.setCell ⟨p, 0, none⟩ (.slice A' l'.length c')) n0 p A' c' { t with rs := l' } m B e es ∧ Below n0 w (v.setCell ⟨p, 0, none⟩ (.slice A' l'.length c')) := by
  have hb : Blk v p 64 (chC A c t m B e es) := h.blk.only ho h.apart.1
  have he : OwnE v n0 B e es := own_keep h.evs fun g hg => ho.block g (h.evs.lt g hg).2 (fun e => h.rows g e hg)
  refine ⟨⟨hb.put 0 _, ⟨own_keep hw.1 fun g hg => Below.heap_setCell v _ _ g (fun e => own_apart hw.1 hb (by decide) (hg.trans (congrArg some e))), hw.2⟩, own_keep he fun g hg => Below.heap_setCell v _ _ g (fun e => own_apart he hb (by decide) (hg.trans (congrArg some e))), h.hp⟩, ?_⟩
  have b1 : Below n0 w v := ho.toBelow h.lt (fun k hk => (h.rgs.1.lt k hk).1)
  exact b1.trans (bel_put h.hp (Nat.le_trans h.lt ho.size) 0 _)
end
theorem i64w (x : Int) (h : -9223372036854775808 ≤ x ∧ x ≤ 9223372036854775807) : IntKind.i64.wrap x = x := by rw [IntKind.wrap_i64]; omega
def incG (g : Int) : Int := IntKind.u32.wrap (g + 1)
/-- One taken out. -/
def outR (l : List Rg) (h : ByteArray) : List Rg := l.take (l.findIdx (isH h)) ++ l.drop (l.findIdx (isH h) + 1)
def unT (t : Tl) (m : Cm) : Tl := { t with rs := outR t.rs m.ho, ge := incG t.ge }
def lastB (t : Tl) (m : Cm) : Bool := eqS t.ho m.ho || decide ((unT t m).rs.length = 0)
def unregT (t : Tl) (m : Cm) : Tl := if regB t.rs m.ho then if lastB t m then endT (unT t m) else unT t m else t
def unregE (t : Tl) (m : Cm) (es : List Ev) : List Ev := if regB t.rs m.ho && lastB t m then endE (unT t m) m es else es
theorem outR_length {l : List Rg} {h : ByteArray} {k : Nat} (hk : k = l.findIdx (isH h)) (hlt : k < l.length) : (outR l h).length = l.length - 1 := by
  unfold outR
  rw [← hk]
  simp only [List.length_append, List.length_take, List.length_drop]
  omega
set_option maxRecDepth 100000 in
set_option maxHeartbeats 2000000 in
theorem unreg_no (w : World) (n0 p : Nat) (A : Option Addr) (c : Nat) (t : Tl) (m : Cm) (B : Option Addr) (e : Nat) (es : List Ev) (h : Chg w n0 p A c t m B e es) (hm : t.rs.length ≤ 1000) (hr : regB t.rs m.ho = false) :
    Calls Tryd.prog 68 #[.pointer (some ⟨p, 0, none⟩)] w fun e w' => e = .returned (.tuple #[]) ∧ WrO n0 p t m es w w' := by
  have hf := findQ_none (q := isH m.ho) hr
  have H := Lib.hid h
  clear h hr
  go_enter Tryd.func68, Tryd.ntmps68
  go_upto_region 0 with (fail)
  obtain ⟨C, hC0, hCl, hCi, hCm⟩ := class_ch H.out.at_
  have HC0 := Lib.hid hC0; have HL := Lib.hid hCl; have HCi := Lib.hid hCi; have HCm := Lib.hid hCm
  clear hC0 hCl hCi hCm
  have HI := Lib.hid (fun v (hv : C v) => indexOf_any A c t.rs m.ho v (HL.out v hv).rgs (by unfold maxLen; omega))
  rw [hf] at HI
  clear hf
  refine wp_region_class C (by kernel_rfl) (by kernel_rfl) HC0.out ?_
  go_big_quiet_want
  go_big_quiet_op
  first | go_big_quiet_on | (refine ⟨_, fun _ _ => rfl, ?_⟩; go_big_quiet_on)
  go_big_quiet_want
  go_big_quiet_op
  first | go_big_quiet_on | (refine ⟨_, fun _ _ => rfl, ?_⟩; go_big_quiet_on)
  go_big_quiet_want
  go_big_quiet_op
  first | go_big_quiet_on | (refine ⟨_, fun _ _ => rfl, ?_⟩; go_big_quiet_on)
  go_big_quiet_want
  go_big_quiet_op
  first | go_big_quiet_on | (refine ⟨_, fun _ _ => rfl, ?_⟩; go_big_quiet_on)
  go_big_quiet_want
  refine quiet_run (v := .slice A t.rs.length c) (fun v hv => by have hr := (HL.out v hv).r; obtain ⟨c0, c1, c2, c3, c4, c7, c13, c14, c15, c16, c17, c18⟩ := hr; go_simp) ?_
  simp only [Act.put, List.setIfInBounds_toArray, List.set_cons_zero, List.set_cons_succ]
  go_big_quiet_on
  go_big_quiet_want
  go_big_quiet_op
  first | go_big_quiet_on | (refine ⟨_, fun _ _ => rfl, ?_⟩; go_big_quiet_on)
  go_big_quiet_want
  go_big_quiet_op
  first | go_big_quiet_on | (refine ⟨_, fun _ _ => rfl, ?_⟩; go_big_quiet_on)
  go_big_quiet_want
  go_big_quiet_op
  first | go_big_quiet_on | (refine ⟨_, fun _ _ => rfl, ?_⟩; go_big_quiet_on)
  go_big_quiet_want
  go_big_quiet_op
  first | go_big_quiet_on | (refine ⟨_, fun _ _ => rfl, ?_⟩; go_big_quiet_on)
  go_big_quiet_want
  refine quiet_run (v := .string m.ho) (fun v hv => by have hr := (HL.out v hv).r; obtain ⟨c0, c1, c2, c3, c4, c7, c13, c14, c15, c16, c17, c18⟩ := hr; go_simp) ?_
  simp only [Act.put, List.setIfInBounds_toArray, List.set_cons_zero, List.set_cons_succ]
  go_big_quiet_on
  go_big_quiet_want
  refine quiet_call (f := 35) (args := #[.slice A t.rs.length c, .string m.ho]) (fun v _ => by go_simp) (fun v hv => (HI.out v hv).mono (fun e w' h => ⟨h.1, HCm.out v w' hv h.2⟩)) ?_
  simp only [Act.put, List.setIfInBounds_toArray, List.set_cons_zero, List.set_cons_succ]
  go_big_quiet_on
  go_big_quiet_want
  go_big_quiet_op
  first | go_big_quiet_on | (refine ⟨_, fun _ _ => rfl, ?_⟩; go_big_quiet_on)

  intro w1 hC1
  have HB1 := Lib.hid (HCi.out w1 hC1)
  have H1 := Lib.hid (H.out.below HB1.out)
  clear hC1
  go_wp2_with (fail)
  exact bodyPost_ret (results_none rfl _ _ _) rfl ⟨rfl, A, c, B, e, H1.out, HB1.out.mono H.out.lt⟩
set_option maxRecDepth 100000 in
set_option maxHeartbeats 4000000 in
theorem unreg_holder (w : World) (n0 p : Nat) (A : Option Addr) (c : Nat) (t : Tl) (m : Cm) (B : Option Addr) (e : Nat) (es : List Ev) (h : Chg w n0 p A c t m B e es) (hx : ∀ x ∈ t.rs, x.h.size ≤ 1000) (hm : t.rs.length ≤ 1000) (he : es.length ≤ 1000) (hr : regB t.rs m.ho = true) (hq : eqS t.ho m.ho = true) :
    Calls Tryd.prog 68 #[.pointer (some ⟨p, 0, none⟩)] w fun e w' => e = .returned (.tuple #[]) ∧ WrO n0 p (endT (unT t m)) m (endE (unT t m) m es) w w' := by
  obtain ⟨k, x0, hf, hx0, hq0, hk0⟩ := findQ_some (q := isH m.ho) hr
  have hkn := (List.getElem?_eq_some_iff.1 hx0).1
  obtain ⟨g, rfl, hg0, hrow⟩ := RowR.of h.rgs (by omega)
  have H := Lib.hid h; have HRW := Lib.hid hrow; have HG := Lib.hid hg0
  have HOL := Lib.hid (outR_length hk0 hkn)
  have hout : outR t.rs m.ho = t.rs.take k ++ t.rs.drop (k + 1) := by unfold outR; rw [← hk0]
  have HOE := Lib.hid hout
  have HXo : Hid (∀ x ∈ (unT t m).rs, x.h.size ≤ 1000) := by
    intro x hx'
    have hx'' : x ∈ t.rs.take k ++ t.rs.drop (k + 1) := by rw [← hout]; exact hx'
    rcases List.mem_append.1 hx'' with q | q
    · exact hx x (List.mem_of_mem_take q)
    · exact hx x (List.mem_of_mem_drop q)
  have hml : (unT t m).rs.length ≤ 1000 := by show (outR t.rs m.ho).length ≤ 1000; rw [HOL.out]; omega
  clear h hrow hg0 hx0 hq0 hk0 hr hout
  have HE := Lib.hid (fun v A c B e (hv : Chg v n0 p A c (unT t m) m B e es) => end_any v n0 p A c (unT t m) m B e es hv HXo.out hml he)
  have HEQ : Hid ((t.ho.toList == m.ho.toList) = true) := hq
  clear hq
  clear hx he
  have hi1 : IntKind.i64.wrap ((k : Int) + 1) = (k : Int) + 1 := i64w _ (by omega)
  go_enter Tryd.func68, Tryd.ntmps68
  go_upto_region 0 with (fail)
  obtain ⟨C, hC0, hCl, hCi, hCm⟩ := class_ch H.out.at_
  have HC0 := Lib.hid hC0; have HL := Lib.hid hCl; have HCi := Lib.hid hCi; have HCm := Lib.hid hCm
  clear hC0 hCl hCi hCm
  have HI := Lib.hid (fun v (hv : C v) => indexOf_any (some ⟨g, 0, none⟩) c t.rs m.ho v (HL.out v hv).rgs (by unfold maxLen; omega))
  rw [hf] at HI
  clear hf
  refine wp_region_class C (by kernel_rfl) (by kernel_rfl) HC0.out ?_
  go_big_quiet_want
  go_big_quiet_op
  first | go_big_quiet_on | (refine ⟨_, fun _ _ => rfl, ?_⟩; go_big_quiet_on)
  go_big_quiet_want
  go_big_quiet_op
  first | go_big_quiet_on | (refine ⟨_, fun _ _ => rfl, ?_⟩; go_big_quiet_on)
  go_big_quiet_want
  go_big_quiet_op
  first | go_big_quiet_on | (refine ⟨_, fun _ _ => rfl, ?_⟩; go_big_quiet_on)
  go_big_quiet_want
  go_big_quiet_op
  first | go_big_quiet_on | (refine ⟨_, fun _ _ => rfl, ?_⟩; go_big_quiet_on)
  go_big_quiet_want
  refine quiet_run (v := .slice (some ⟨g, 0, none⟩) t.rs.length c) (fun v hv => by have hr := (HL.out v hv).r; obtain ⟨c0, c1, c2, c3, c4, c7, c13, c14, c15, c16, c17, c18⟩ := hr; go_simp) ?_
  simp only [Act.put, List.setIfInBounds_toArray, List.set_cons_zero, List.set_cons_succ]
  go_big_quiet_on
  go_big_quiet_want
  go_big_quiet_op
  first | go_big_quiet_on | (refine ⟨_, fun _ _ => rfl, ?_⟩; go_big_quiet_on)
  go_big_quiet_want
  go_big_quiet_op
  first | go_big_quiet_on | (refine ⟨_, fun _ _ => rfl, ?_⟩; go_big_quiet_on)
  go_big_quiet_want
  go_big_quiet_op
  first | go_big_quiet_on | (refine ⟨_, fun _ _ => rfl, ?_⟩; go_big_quiet_on)
  go_big_quiet_want
  go_big_quiet_op
  first | go_big_quiet_on | (refine ⟨_, fun _ _ => rfl, ?_⟩; go_big_quiet_on)
  go_big_quiet_want
  refine quiet_run (v := .string m.ho) (fun v hv => by have hr := (HL.out v hv).r; obtain ⟨c0, c1, c2, c3, c4, c7, c13, c14, c15, c16, c17, c18⟩ := hr; go_simp) ?_
  simp only [Act.put, List.setIfInBounds_toArray, List.set_cons_zero, List.set_cons_succ]
  go_big_quiet_on
  go_big_quiet_want
  refine quiet_call (f := 35) (args := #[.slice (some ⟨g, 0, none⟩) t.rs.length c, .string m.ho]) (fun v _ => by go_simp) (fun v hv => (HI.out v hv).mono (fun e w' h => ⟨h.1, HCm.out v w' hv h.2⟩)) ?_
  simp only [Act.put, List.setIfInBounds_toArray, List.set_cons_zero, List.set_cons_succ]
  go_big_quiet_on
  go_big_quiet_want
  go_big_quiet_op
  first | go_big_quiet_on | (refine ⟨_, fun _ _ => rfl, ?_⟩; go_big_quiet_on)

  intro w1 hC1
  have HB1 := Lib.hid (HCi.out w1 hC1)
  have H1 := Lib.hid (H.out.below HB1.out)
  clear hC1
  have c0 : w1.cell? ⟨p, 0, none⟩ = some (.slice (some ⟨g, 0, none⟩) t.rs.length c) := H1.out.at_.r.rs
  have HD := Lib.hid (delete_any w1 g c t.rs k hkn (HRW.out.below HB1.out) hm)
  go_wp2_with (fail)
  refine HD.out.mono ?_; rintro e w2 ⟨rfl, hr2, ho2⟩
  have hl2 : (outR t.rs m.ho).length = t.rs.length - 1 := HOL.out
  have hP := H1.out.rows_put (v := w2) (l' := outR t.rs m.ho) (ho2.mono fun i hi => by rw [hi]; rfl) (hr2.own HG.out (fun x hx => Nat.le_trans (HXo.out x (by show x ∈ outR t.rs m.ho; rw [HOE.out]; exact hx)) (by unfold maxLen; omega)) |> fun q => by rw [← HOE.out] at q; exact q)
  rw [hl2] at hP
  have f0 : w2.frozen? ⟨p, 0, none⟩ = false := (H1.out.blk.only ho2 (fun e => H1.out.apart.1 (by rw [e]; rfl))).free 0
  have c02 : w2.cell? ⟨p, 0, none⟩ = some (.slice (some ⟨g, 0, none⟩) t.rs.length c) := (H1.out.blk.only ho2 (fun e => H1.out.apart.1 (by rw [e]; rfl))).cell 0
  have HP := Lib.hid hP.1; have HBP := Lib.hid ((HB1.out.mono H.out.lt).trans hP.2)
  clear hP hr2 ho2 c0
  go_upto_region 3 with (fail)
  generalize w2.setCell ⟨p, 0, none⟩ (.slice (some ⟨g, 0, none⟩) (t.rs.length - 1) c) = w3 at *
  have c3 : w3.cell? ⟨p, 3, none⟩ = some (.int .u32 t.ge) := HP.out.blk.cell 3
  have f3 := HP.out.blk.free 3
  obtain ⟨g1, g2⟩ := HP.out.put 3 (.int .u32 (incG t.ge)) (t' := unT t m) rfl rfl
  have H3 := Lib.hid g1; have HB3 := Lib.hid (HBP.out.trans g2)
  clear g1 g2 c02 f0
  have hig : IntKind.u32.wrap (t.ge + 1) = incG t.ge := rfl
  go_upto_region 4 with (fail)
  generalize w3.setCell ⟨p, 3, none⟩ (.int .u32 (incG t.ge)) = w4 at *
  clear c3 f3 hig
  have c0 : w4.cell? ⟨p, 0, none⟩ = some (.slice (some ⟨g, 0, none⟩) (outR t.rs m.ho).length c) := H3.out.at_.r.rs
  have c2 : w4.cell? ⟨p, 2, none⟩ = some (.string t.ho) := H3.out.at_.r.hh
  have c7 : w4.cell? ⟨p, 7, none⟩ = some (.string m.ho) := H3.out.at_.r.ho
  have hqe := HEQ.out
  go_quiet (fail)
  clear c0 c2 c7
  have H4 := Lib.hid (fun n => H3.out.below (below_drewN (Below.refl _ _) n))
  go_wp2_with (fail)
  refine (HE.out _ _ _ _ _ (H4.out _)).mono ?_; rintro e w5 ⟨rfl, A5, c5, B5, e5, h5, hb5⟩
  have H5 := Lib.hid h5; have HB5 := Lib.hid ((below_drewN HB3.out _).trans hb5)
  clear h5 hb5
  go_wp2_with (fail)
  go_end0
  exact ⟨rfl, A5, c5, B5, e5, H5.out, HB5.out⟩
set_option maxRecDepth 100000 in
set_option maxHeartbeats 4000000 in
theorem unreg_last (w : World) (n0 p : Nat) (A : Option Addr) (c : Nat) (t : Tl) (m : Cm) (B : Option Addr) (e : Nat) (es : List Ev) (h : Chg w n0 p A c t m B e es) (hx : ∀ x ∈ t.rs, x.h.size ≤ 1000) (hm : t.rs.length ≤ 1000) (he : es.length ≤ 1000) (hr : regB t.rs m.ho = true) (hq : eqS t.ho m.ho = false) (hz : (outR t.rs m.ho).length = 0) :
    Calls Tryd.prog 68 #[.pointer (some ⟨p, 0, none⟩)] w fun e w' => e = .returned (.tuple #[]) ∧ WrO n0 p (endT (unT t m)) m (endE (unT t m) m es) w w' := by
  obtain ⟨k, x0, hf, hx0, hq0, hk0⟩ := findQ_some (q := isH m.ho) hr
  have hkn := (List.getElem?_eq_some_iff.1 hx0).1
  obtain ⟨g, rfl, hg0, hrow⟩ := RowR.of h.rgs (by omega)
  have H := Lib.hid h; have HRW := Lib.hid hrow; have HG := Lib.hid hg0
  have HOL := Lib.hid (outR_length hk0 hkn)
  have hout : outR t.rs m.ho = t.rs.take k ++ t.rs.drop (k + 1) := by unfold outR; rw [← hk0]
  have HOE := Lib.hid hout
  have HXo : Hid (∀ x ∈ (unT t m).rs, x.h.size ≤ 1000) := by
    intro x hx'
    have hx'' : x ∈ t.rs.take k ++ t.rs.drop (k + 1) := by rw [← hout]; exact hx'
    rcases List.mem_append.1 hx'' with q | q
    · exact hx x (List.mem_of_mem_take q)
    · exact hx x (List.mem_of_mem_drop q)
  have hml : (unT t m).rs.length ≤ 1000 := by show (outR t.rs m.ho).length ≤ 1000; rw [HOL.out]; omega
  clear h hrow hg0 hx0 hq0 hk0 hr hout
  have HE := Lib.hid (fun v A c B e (hv : Chg v n0 p A c (unT t m) m B e es) => end_any v n0 p A c (unT t m) m B e es hv HXo.out hml he)
  have HEQ : Hid ((t.ho.toList == m.ho.toList) = false) := hq
  clear hq
  have HZ := Lib.hid hz
  clear hz
  clear hx he
  have hi1 : IntKind.i64.wrap ((k : Int) + 1) = (k : Int) + 1 := i64w _ (by omega)
  go_enter Tryd.func68, Tryd.ntmps68
  go_upto_region 0 with (fail)
  obtain ⟨C, hC0, hCl, hCi, hCm⟩ := class_ch H.out.at_
  have HC0 := Lib.hid hC0; have HL := Lib.hid hCl; have HCi := Lib.hid hCi; have HCm := Lib.hid hCm
  clear hC0 hCl hCi hCm
  have HI := Lib.hid (fun v (hv : C v) => indexOf_any (some ⟨g, 0, none⟩) c t.rs m.ho v (HL.out v hv).rgs (by unfold maxLen; omega))
  rw [hf] at HI
  clear hf
  refine wp_region_class C (by kernel_rfl) (by kernel_rfl) HC0.out ?_
  go_big_quiet_want
  go_big_quiet_op
  first | go_big_quiet_on | (refine ⟨_, fun _ _ => rfl, ?_⟩; go_big_quiet_on)
  go_big_quiet_want
  go_big_quiet_op
  first | go_big_quiet_on | (refine ⟨_, fun _ _ => rfl, ?_⟩; go_big_quiet_on)
  go_big_quiet_want
  go_big_quiet_op
  first | go_big_quiet_on | (refine ⟨_, fun _ _ => rfl, ?_⟩; go_big_quiet_on)
  go_big_quiet_want
  go_big_quiet_op
  first | go_big_quiet_on | (refine ⟨_, fun _ _ => rfl, ?_⟩; go_big_quiet_on)
  go_big_quiet_want
  refine quiet_run (v := .slice (some ⟨g, 0, none⟩) t.rs.length c) (fun v hv => by have hr := (HL.out v hv).r; obtain ⟨c0, c1, c2, c3, c4, c7, c13, c14, c15, c16, c17, c18⟩ := hr; go_simp) ?_
  simp only [Act.put, List.setIfInBounds_toArray, List.set_cons_zero, List.set_cons_succ]
  go_big_quiet_on
  go_big_quiet_want
  go_big_quiet_op
  first | go_big_quiet_on | (refine ⟨_, fun _ _ => rfl, ?_⟩; go_big_quiet_on)
  go_big_quiet_want
  go_big_quiet_op
  first | go_big_quiet_on | (refine ⟨_, fun _ _ => rfl, ?_⟩; go_big_quiet_on)
  go_big_quiet_want
  go_big_quiet_op
  first | go_big_quiet_on | (refine ⟨_, fun _ _ => rfl, ?_⟩; go_big_quiet_on)
  go_big_quiet_want
  go_big_quiet_op
  first | go_big_quiet_on | (refine ⟨_, fun _ _ => rfl, ?_⟩; go_big_quiet_on)
  go_big_quiet_want
  refine quiet_run (v := .string m.ho) (fun v hv => by have hr := (HL.out v hv).r; obtain ⟨c0, c1, c2, c3, c4, c7, c13, c14, c15, c16, c17, c18⟩ := hr; go_simp) ?_
  simp only [Act.put, List.setIfInBounds_toArray, List.set_cons_zero, List.set_cons_succ]
  go_big_quiet_on
  go_big_quiet_want
  refine quiet_call (f := 35) (args := #[.slice (some ⟨g, 0, none⟩) t.rs.length c, .string m.ho]) (fun v _ => by go_simp) (fun v hv => (HI.out v hv).mono (fun e w' h => ⟨h.1, HCm.out v w' hv h.2⟩)) ?_
  simp only [Act.put, List.setIfInBounds_toArray, List.set_cons_zero, List.set_cons_succ]
  go_big_quiet_on
  go_big_quiet_want
  go_big_quiet_op
  first | go_big_quiet_on | (refine ⟨_, fun _ _ => rfl, ?_⟩; go_big_quiet_on)

  intro w1 hC1
  have HB1 := Lib.hid (HCi.out w1 hC1)
  have H1 := Lib.hid (H.out.below HB1.out)
  clear hC1
  have c0 : w1.cell? ⟨p, 0, none⟩ = some (.slice (some ⟨g, 0, none⟩) t.rs.length c) := H1.out.at_.r.rs
  have HD := Lib.hid (delete_any w1 g c t.rs k hkn (HRW.out.below HB1.out) hm)
  go_wp2_with (fail)
  refine HD.out.mono ?_; rintro e w2 ⟨rfl, hr2, ho2⟩
  have hl2 : (outR t.rs m.ho).length = t.rs.length - 1 := HOL.out
  have hP := H1.out.rows_put (v := w2) (l' := outR t.rs m.ho) (ho2.mono fun i hi => by rw [hi]; rfl) (hr2.own HG.out (fun x hx => Nat.le_trans (HXo.out x (by show x ∈ outR t.rs m.ho; rw [HOE.out]; exact hx)) (by unfold maxLen; omega)) |> fun q => by rw [← HOE.out] at q; exact q)
  rw [hl2] at hP
  have f0 : w2.frozen? ⟨p, 0, none⟩ = false := (H1.out.blk.only ho2 (fun e => H1.out.apart.1 (by rw [e]; rfl))).free 0
  have c02 : w2.cell? ⟨p, 0, none⟩ = some (.slice (some ⟨g, 0, none⟩) t.rs.length c) := (H1.out.blk.only ho2 (fun e => H1.out.apart.1 (by rw [e]; rfl))).cell 0
  have HP := Lib.hid hP.1; have HBP := Lib.hid ((HB1.out.mono H.out.lt).trans hP.2)
  clear hP hr2 ho2 c0
  go_upto_region 3 with (fail)
  generalize w2.setCell ⟨p, 0, none⟩ (.slice (some ⟨g, 0, none⟩) (t.rs.length - 1) c) = w3 at *
  have c3 : w3.cell? ⟨p, 3, none⟩ = some (.int .u32 t.ge) := HP.out.blk.cell 3
  have f3 := HP.out.blk.free 3
  obtain ⟨g1, g2⟩ := HP.out.put 3 (.int .u32 (incG t.ge)) (t' := unT t m) rfl rfl
  have H3 := Lib.hid g1; have HB3 := Lib.hid (HBP.out.trans g2)
  clear g1 g2 c02 f0
  have hig : IntKind.u32.wrap (t.ge + 1) = incG t.ge := rfl
  go_upto_region 4 with (fail)
  generalize w3.setCell ⟨p, 3, none⟩ (.int .u32 (incG t.ge)) = w4 at *
  clear c3 f3 hig
  have c0 : w4.cell? ⟨p, 0, none⟩ = some (.slice (some ⟨g, 0, none⟩) (outR t.rs m.ho).length c) := H3.out.at_.r.rs
  have c2 : w4.cell? ⟨p, 2, none⟩ = some (.string t.ho) := H3.out.at_.r.hh
  have c7 : w4.cell? ⟨p, 7, none⟩ = some (.string m.ho) := H3.out.at_.r.ho
  have hqe := HEQ.out
  rw [HZ.out] at c0
  go_quiet (fail)
  clear c0 c2 c7
  have H4 := Lib.hid (fun n => H3.out.below (below_drewN (Below.refl _ _) n))
  go_wp2_with (fail)
  refine (HE.out _ _ _ _ _ (H4.out _)).mono ?_; rintro e w5 ⟨rfl, A5, c5, B5, e5, h5, hb5⟩
  have H5 := Lib.hid h5; have HB5 := Lib.hid ((below_drewN HB3.out _).trans hb5)
  clear h5 hb5
  go_wp2_with (fail)
  go_end0
  exact ⟨rfl, A5, c5, B5, e5, H5.out, HB5.out⟩
set_option maxRecDepth 100000 in
set_option maxHeartbeats 4000000 in
theorem unreg_else (w : World) (n0 p : Nat) (A : Option Addr) (c : Nat) (t : Tl) (m : Cm) (B : Option Addr) (e : Nat) (es : List Ev) (h : Chg w n0 p A c t m B e es) (hx : ∀ x ∈ t.rs, x.h.size ≤ 1000) (hm : t.rs.length ≤ 1000) (_he : es.length ≤ 1000) (hr : regB t.rs m.ho = true) (hq : eqS t.ho m.ho = false) (hz : (outR t.rs m.ho).length ≠ 0) :
    Calls Tryd.prog 68 #[.pointer (some ⟨p, 0, none⟩)] w fun e w' => e = .returned (.tuple #[]) ∧ WrO n0 p (unT t m) m es w w' := by
  obtain ⟨k, x0, hf, hx0, hq0, hk0⟩ := findQ_some (q := isH m.ho) hr
  have hkn := (List.getElem?_eq_some_iff.1 hx0).1
  obtain ⟨g, rfl, hg0, hrow⟩ := RowR.of h.rgs (by omega)
  have H := Lib.hid h; have HRW := Lib.hid hrow; have HG := Lib.hid hg0
  have HOL := Lib.hid (outR_length hk0 hkn)
  have hout : outR t.rs m.ho = t.rs.take k ++ t.rs.drop (k + 1) := by unfold outR; rw [← hk0]
  have HOE := Lib.hid hout
  have HXo : Hid (∀ x ∈ (unT t m).rs, x.h.size ≤ 1000) := by
    intro x hx'
    have hx'' : x ∈ t.rs.take k ++ t.rs.drop (k + 1) := by rw [← hout]; exact hx'
    rcases List.mem_append.1 hx'' with q | q
    · exact hx x (List.mem_of_mem_take q)
    · exact hx x (List.mem_of_mem_drop q)
  have hml : (unT t m).rs.length ≤ 1000 := by show (outR t.rs m.ho).length ≤ 1000; rw [HOL.out]; omega
  clear h hrow hg0 hx0 hq0 hk0 hr hout
  have HEQ : Hid ((t.ho.toList == m.ho.toList) = false) := hq
  clear hq
  have HZ := Lib.hid hz
  clear hz
  clear hx
  have hi1 : IntKind.i64.wrap ((k : Int) + 1) = (k : Int) + 1 := i64w _ (by omega)
  go_enter Tryd.func68, Tryd.ntmps68
  go_upto_region 0 with (fail)
  obtain ⟨C, hC0, hCl, hCi, hCm⟩ := class_ch H.out.at_
  have HC0 := Lib.hid hC0; have HL := Lib.hid hCl; have HCi := Lib.hid hCi; have HCm := Lib.hid hCm
  clear hC0 hCl hCi hCm
  have HI := Lib.hid (fun v (hv : C v) => indexOf_any (some ⟨g, 0, none⟩) c t.rs m.ho v (HL.out v hv).rgs (by unfold maxLen; omega))
  rw [hf] at HI
  clear hf
  refine wp_region_class C (by kernel_rfl) (by kernel_rfl) HC0.out ?_
  go_big_quiet_want
  go_big_quiet_op
  first | go_big_quiet_on | (refine ⟨_, fun _ _ => rfl, ?_⟩; go_big_quiet_on)
  go_big_quiet_want
  go_big_quiet_op
  first | go_big_quiet_on | (refine ⟨_, fun _ _ => rfl, ?_⟩; go_big_quiet_on)
  go_big_quiet_want
  go_big_quiet_op
  first | go_big_quiet_on | (refine ⟨_, fun _ _ => rfl, ?_⟩; go_big_quiet_on)
  go_big_quiet_want
  go_big_quiet_op
  first | go_big_quiet_on | (refine ⟨_, fun _ _ => rfl, ?_⟩; go_big_quiet_on)
  go_big_quiet_want
  refine quiet_run (v := .slice (some ⟨g, 0, none⟩) t.rs.length c) (fun v hv => by have hr := (HL.out v hv).r; obtain ⟨c0, c1, c2, c3, c4, c7, c13, c14, c15, c16, c17, c18⟩ := hr; go_simp) ?_
  simp only [Act.put, List.setIfInBounds_toArray, List.set_cons_zero, List.set_cons_succ]
  go_big_quiet_on
  go_big_quiet_want
  go_big_quiet_op
  first | go_big_quiet_on | (refine ⟨_, fun _ _ => rfl, ?_⟩; go_big_quiet_on)
  go_big_quiet_want
  go_big_quiet_op
  first | go_big_quiet_on | (refine ⟨_, fun _ _ => rfl, ?_⟩; go_big_quiet_on)
  go_big_quiet_want
  go_big_quiet_op
  first | go_big_quiet_on | (refine ⟨_, fun _ _ => rfl, ?_⟩; go_big_quiet_on)
  go_big_quiet_want
  go_big_quiet_op
  first | go_big_quiet_on | (refine ⟨_, fun _ _ => rfl, ?_⟩; go_big_quiet_on)
  go_big_quiet_want
  refine quiet_run (v := .string m.ho) (fun v hv => by have hr := (HL.out v hv).r; obtain ⟨c0, c1, c2, c3, c4, c7, c13, c14, c15, c16, c17, c18⟩ := hr; go_simp) ?_
  simp only [Act.put, List.setIfInBounds_toArray, List.set_cons_zero, List.set_cons_succ]
  go_big_quiet_on
  go_big_quiet_want
  refine quiet_call (f := 35) (args := #[.slice (some ⟨g, 0, none⟩) t.rs.length c, .string m.ho]) (fun v _ => by go_simp) (fun v hv => (HI.out v hv).mono (fun e w' h => ⟨h.1, HCm.out v w' hv h.2⟩)) ?_
  simp only [Act.put, List.setIfInBounds_toArray, List.set_cons_zero, List.set_cons_succ]
  go_big_quiet_on
  go_big_quiet_want
  go_big_quiet_op
  first | go_big_quiet_on | (refine ⟨_, fun _ _ => rfl, ?_⟩; go_big_quiet_on)

  intro w1 hC1
  have HB1 := Lib.hid (HCi.out w1 hC1)
  have H1 := Lib.hid (H.out.below HB1.out)
  clear hC1
  have c0 : w1.cell? ⟨p, 0, none⟩ = some (.slice (some ⟨g, 0, none⟩) t.rs.length c) := H1.out.at_.r.rs
  have HD := Lib.hid (delete_any w1 g c t.rs k hkn (HRW.out.below HB1.out) hm)
  go_wp2_with (fail)
  refine HD.out.mono ?_; rintro e w2 ⟨rfl, hr2, ho2⟩
  have hl2 : (outR t.rs m.ho).length = t.rs.length - 1 := HOL.out
  have hP := H1.out.rows_put (v := w2) (l' := outR t.rs m.ho) (ho2.mono fun i hi => by rw [hi]; rfl) (hr2.own HG.out (fun x hx => Nat.le_trans (HXo.out x (by show x ∈ outR t.rs m.ho; rw [HOE.out]; exact hx)) (by unfold maxLen; omega)) |> fun q => by rw [← HOE.out] at q; exact q)
  rw [hl2] at hP
  have f0 : w2.frozen? ⟨p, 0, none⟩ = false := (H1.out.blk.only ho2 (fun e => H1.out.apart.1 (by rw [e]; rfl))).free 0
  have c02 : w2.cell? ⟨p, 0, none⟩ = some (.slice (some ⟨g, 0, none⟩) t.rs.length c) := (H1.out.blk.only ho2 (fun e => H1.out.apart.1 (by rw [e]; rfl))).cell 0
  have HP := Lib.hid hP.1; have HBP := Lib.hid ((HB1.out.mono H.out.lt).trans hP.2)
  clear hP hr2 ho2 c0
  go_upto_region 3 with (fail)
  generalize w2.setCell ⟨p, 0, none⟩ (.slice (some ⟨g, 0, none⟩) (t.rs.length - 1) c) = w3 at *
  have c3 : w3.cell? ⟨p, 3, none⟩ = some (.int .u32 t.ge) := HP.out.blk.cell 3
  have f3 := HP.out.blk.free 3
  obtain ⟨g1, g2⟩ := HP.out.put 3 (.int .u32 (incG t.ge)) (t' := unT t m) rfl rfl
  have H3 := Lib.hid g1; have HB3 := Lib.hid (HBP.out.trans g2)
  clear g1 g2 c02 f0
  have hig : IntKind.u32.wrap (t.ge + 1) = incG t.ge := rfl
  go_upto_region 4 with (fail)
  generalize w3.setCell ⟨p, 3, none⟩ (.int .u32 (incG t.ge)) = w4 at *
  clear c3 f3 hig
  have c0 : w4.cell? ⟨p, 0, none⟩ = some (.slice (some ⟨g, 0, none⟩) (outR t.rs m.ho).length c) := H3.out.at_.r.rs
  have c2 : w4.cell? ⟨p, 2, none⟩ = some (.string t.ho) := H3.out.at_.r.hh
  have c7 : w4.cell? ⟨p, 7, none⟩ = some (.string m.ho) := H3.out.at_.r.ho
  have hqe := HEQ.out
  have hzz := HZ.out
  have hzb : (((outR t.rs m.ho).length : Int) == 0) = false := by rw [int_beq]; exact decide_eq_false (by omega)
  go_quiet (fail)
  clear c0 c2 c7
  have H4 := Lib.hid (fun n => H3.out.below (below_drewN (Below.refl _ _) n))
  go_wp2_with (fail)
  go_end0
  exact ⟨rfl, _, c, B, e, H4.out _, below_drewN HB3.out _⟩
theorem unreg_any (w : World) (n0 p : Nat) (A : Option Addr) (c : Nat) (t : Tl) (m : Cm) (B : Option Addr) (e : Nat) (es : List Ev) (h : Chg w n0 p A c t m B e es) (hx : ∀ x ∈ t.rs, x.h.size ≤ 1000) (hm : t.rs.length ≤ 1000) (he : es.length ≤ 1000) :
    Calls Tryd.prog 68 #[.pointer (some ⟨p, 0, none⟩)] w fun e w' => e = .returned (.tuple #[]) ∧ WrO n0 p (unregT t m) m (unregE t m es) w w' := by
  cases hr : regB t.rs m.ho with
  | false =>
    rw [show unregT t m = t by unfold unregT; rw [hr]; rfl, show unregE t m es = es by unfold unregE; rw [hr]; rfl]
    exact unreg_no w n0 p A c t m B e es h hm hr
  | true =>
    cases hl : lastB t m with
    | true =>
      rw [show unregT t m = endT (unT t m) by unfold unregT; rw [hr, hl]; rfl, show unregE t m es = endE (unT t m) m es by unfold unregE; rw [hr, hl]; rfl]
      cases hq : eqS t.ho m.ho with
      | true => exact unreg_holder w n0 p A c t m B e es h hx hm he hr hq
      | false =>
        have : decide ((unT t m).rs.length = 0) = true := by unfold lastB at hl; rw [hq, Bool.false_or] at hl; exact hl
        exact unreg_last w n0 p A c t m B e es h hx hm he hr hq (of_decide_eq_true this)
    | false =>
      rw [show unregT t m = unT t m by unfold unregT; rw [hr, hl]; rfl, show unregE t m es = es by unfold unregE; rw [hr, hl]; rfl]
      have hq : eqS t.ho m.ho = false := by
        cases h0 : eqS t.ho m.ho with
        | false => rfl
        | true => unfold lastB at hl; rw [h0, Bool.true_or] at hl; cases hl
      have : decide ((unT t m).rs.length = 0) = false := by unfold lastB at hl; rw [hq, Bool.false_or] at hl; exact hl
      exact unreg_else w n0 p A c t m B e es h hx hm he hr hq (of_decide_eq_false this)
end Go.Proofs.YtgekadfkokkapaaDoor
