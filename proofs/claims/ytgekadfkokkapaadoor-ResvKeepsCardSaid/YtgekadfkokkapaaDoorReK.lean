/- All registrations that a test means taken out of a row in place: slices.DeleteFunc. -/
import Derived.Test.YtgekadfkokkapaaDoorReJ
namespace Go.Proofs.YtgekadfkokkapaaDoor
open Go.RowKit
/-- Those that stay. -/
abbrev staysR (t : Tl) (m : Cm) : Rg → Bool := fun r => !isR t m r
theorem filter_take (q : Rg → Bool) (l : List Rg) (k : Nat) (x : Rg) (hx : l[k]? = some x) : (l.take (k + 1)).filter q = (l.take k).filter q ++ (if q x then [x] else []) := by
  obtain ⟨hk, rfl⟩ := List.getElem?_eq_some_iff.1 hx
  rw [List.take_succ_eq_append_getElem hk, List.filter_append]
  congr 1
  by_cases h : q l[k] = true
  · rw [if_pos h, List.filter_cons_of_pos h]; rfl
  · rw [if_neg h, List.filter_cons_of_neg h]; rfl
theorem filter_none {q : Rg → Bool} {l : List Rg} (h : l.any q = false) : l.filter (fun r => !q r) = l := by
  rw [List.filter_eq_self]
  intro x hx
  have := (List.any_eq_false.1 h) x hx
  simpa using this
/-- How far DeleteFunc is. -/
structure DelAt (w wr : World) (g p : Nat) (c : Nat) (t : Tl) (m : Cm) (B : Option Addr) (e : Nat) (es : List Ev) (i j : Nat) (l : List Rg) : Prop where
  row : RowR wr g c l
  len : l.length = t.rs.length
  at_ : ChAt wr p (some ⟨g, 0, none⟩) c { t with rs := l } m B e es
  tk : l.take i = (t.rs.take j).filter (staysR t m)
  dr : l.drop j = t.rs.drop j
  hi : i = ((t.rs.take j).filter (staysR t m)).length
  ij : i < j
  jn : j ≤ t.rs.length
  on : Only (fun k => k = g) w wr
theorem DelAt.below {w wr v : World} {g p : Nat} {c : Nat} {t : Tl} {m : Cm} {B : Option Addr} {e : Nat} {es : List Ev} {i j : Nat} {l : List Rg} (h : DelAt w wr g p c t m B e es i j l) (hb : Below wr.heap.size wr v) : DelAt w v g p c t m B e es i j l :=
  ⟨h.row.below hb, h.len, h.at_.below hb, h.tk, h.dr, h.hi, h.ij, h.jn, h.on.below hb⟩
theorem DelAt.skip {w wr : World} {g p : Nat} {c : Nat} {t : Tl} {m : Cm} {B : Option Addr} {e : Nat} {es : List Ev} {i j : Nat} {l : List Rg} (h : DelAt w wr g p c t m B e es i j l) {x : Rg} (hx : t.rs[j]? = some x) (hq : isR t m x = true) : DelAt w wr g p c t m B e es i (j + 1) l := by
  have hlt := (List.getElem?_eq_some_iff.1 hx).1
  have ef : (t.rs.take (j + 1)).filter (staysR t m) = (t.rs.take j).filter (staysR t m) := by
    rw [filter_take _ _ _ _ hx, if_neg (by show ¬ (!isR t m x) = true; rw [hq]; decide), List.append_nil]
  refine ⟨h.row, h.len, h.at_, by rw [ef]; exact h.tk, ?_, by rw [ef]; exact h.hi, by have := h.ij; omega, hlt, h.on⟩
  have := congrArg (fun z => z.drop 1) h.dr
  simpa [List.drop_drop, Nat.add_comm] using this
theorem DelAt.lay {w wr : World} {g p : Nat} {c : Nat} {t : Tl} {m : Cm} {B : Option Addr} {e : Nat} {es : List Ev} {i j : Nat} {l : List Rg} (h : DelAt w wr g p c t m B e es i j l) {x : Rg} (hx : t.rs[j]? = some x) (hq : isR t m x = false) (hs : x.h.size ≤ maxLen) (hsl : ∀ y ∈ l, y.h.size ≤ maxLen) :
    DelAt w ((wr.setCell ⟨g, i * 2, none⟩ (.string x.h)).setCell ⟨g, i * 2 + 1, none⟩ (.int .u64 x.k)) g p c t m B e es (i + 1) (j + 1) (l.set i x) ∧ ∀ y ∈ l.set i x, y.h.size ≤ maxLen := by
  have hlt := (List.getElem?_eq_some_iff.1 hx).1
  have hij := h.ij
  have hil : i < l.length := by rw [h.len]; omega
  have ef : (t.rs.take (j + 1)).filter (staysR t m) = (t.rs.take j).filter (staysR t m) ++ [x] := by
    rw [filter_take _ _ _ _ hx, if_pos (by show (!isR t m x) = true; rw [hq]; rfl)]
  have hpg : p ≠ g := fun e => by
    obtain ⟨junk, hb, _⟩ := h.row
    exact h.at_.blk.apart hb (by decide) e
  have hs2 : ∀ y ∈ l.set i x, y.h.size ≤ maxLen := fun y hy => (List.mem_or_eq_of_mem_set hy).elim (hsl y) (fun e => e ▸ hs)
  have hr := h.row.put i x hil
  refine ⟨⟨hr, by rw [List.length_set]; exact h.len, ⟨?_, hr.rgs hs2⟩, ?_, ?_, ?_, by omega, hlt, (h.on.setCell (.inl rfl) _).setCell (.inl rfl) _⟩, hs2⟩
  · have := (h.at_.blk.far (p := ⟨g, i * 2, none⟩) hpg (.string x.h)).far (p := ⟨g, i * 2 + 1, none⟩) hpg (.int .u64 x.k)
    unfold chC at this ⊢
    simp only [List.length_set]
    exact this
  · rw [ef, ← h.tk, List.take_set]
    apply List.ext_getElem?
    intro k
    by_cases hk : k < i
    · rw [List.getElem?_set_ne (by omega), List.getElem?_append_left (by rw [List.length_take]; omega), List.getElem?_take, List.getElem?_take, if_pos (by omega), if_pos hk]
    · by_cases hki : k = i
      · subst hki
        rw [List.getElem?_set_self (by rw [List.length_take]; omega), List.getElem?_append_right (by rw [List.length_take]; omega), List.length_take, Nat.min_eq_left (by omega), Nat.sub_self]
        rfl
      · rw [List.getElem?_eq_none (by rw [List.length_set, List.length_take]; omega), List.getElem?_eq_none (by rw [List.length_append, List.length_take, List.length_singleton]; omega)]
  · rw [List.drop_set, if_pos (by omega)]
    have := congrArg (fun z => z.drop 1) h.dr
    simpa [List.drop_drop, Nat.add_comm] using this
  · rw [ef, List.length_append, ← h.hi]; rfl
theorem DelAt.start {w w1 : World} {g p : Nat} {c : Nat} {t : Tl} {m : Cm} {B : Option Addr} {e : Nat} {es : List Ev} {k : Nat} {x : Rg} (hr : RowR w g c t.rs) (h : ChAt w p (some ⟨g, 0, none⟩) c t m B e es) (hb : Below w.heap.size w w1) (hk : k = t.rs.findIdx (isR t m)) (hx : t.rs[k]? = some x) (hq : isR t m x = true) :
    DelAt w w1 g p c t m B e es k (k + 1) t.rs := by
  have hlt := (List.getElem?_eq_some_iff.1 hx).1
  have e1 : (t.rs.take k).filter (staysR t m) = t.rs.take k := by
    rw [List.filter_eq_self]
    intro y hy
    obtain ⟨i, hi, rfl⟩ := List.getElem_of_mem hy
    rw [List.length_take] at hi
    have hik : i < k := by omega
    rw [hk] at hik
    have := List.not_of_lt_findIdx hik
    rw [List.getElem_take]
    have hv : isR t m t.rs[i] = false := by
      first
        | exact this
        | exact Bool.eq_false_iff.2 this
    exact (congrArg (fun b => !b) hv)
  have ef : (t.rs.take (k + 1)).filter (staysR t m) = t.rs.take k := by
    rw [filter_take _ _ _ _ hx, if_neg (by show ¬ (!isR t m x) = true; rw [hq]; decide), List.append_nil, e1]
  exact ⟨hr.below hb, rfl, h.below hb, by rw [ef], rfl, by rw [ef, List.length_take]; omega, by omega, hlt, Only.of_below hb⟩
set_option maxRecDepth 100000 in
set_option maxHeartbeats 4000000 in
theorem deleteF_any (w : World) (g p : Nat) (c : Nat) (t : Tl) (m : Cm) (B : Option Addr) (e : Nat) (es : List Ev) (hr : RowR w g c t.rs) (h : ChAt w p (some ⟨g, 0, none⟩) c t m B e es) (hs : ∀ y ∈ t.rs, y.h.size ≤ maxLen) (hm : t.rs.length ≤ 1000) :
    Calls Tryd.prog 78 #[.slice (some ⟨g, 0, none⟩) t.rs.length c, .func (.func 77) #[.pointer (some ⟨p, 0, none⟩)] #[]] w fun e w' => e = .returned (.slice (some ⟨g, 0, none⟩) (t.rs.filter (staysR t m)).length c) ∧ RowR w' g c (t.rs.filter (staysR t m)) ∧ Only (fun k => k = g) w w' := by
  have HI := Lib.hid (index_rem (some ⟨g, 0, none⟩) c t.rs p (some ⟨g, 0, none⟩) c t m B e es w h.rgs (by unfold maxLen; omega) h)
  have hle := hr.le
  cases ha : t.rs.any (isR t m) with
  | false =>
    rw [findQ_none ha] at HI
    have HF := Lib.hid (filter_none ha)
    have HR := Lib.hid hr
    clear hr h hs ha
    go_enter Tryd.func78, Tryd.ntmps78
    go_wp2_with (fail)
    refine HI.out.mono ?_; rintro e w1 ⟨rfl, hb1⟩
    go_wp2_with (fail)
    go_ret
    refine ⟨?_, ?_, Only.of_below hb1⟩
    · show Ending.returned (Value.slice _ _ _) = Ending.returned (Value.slice _ (t.rs.filter (fun r => !isR t m r)).length _)
      rw [HF.out]
    · show RowR w1 g c (t.rs.filter (fun r => !isR t m r))
      rw [HF.out]
      exact HR.out.below hb1
  | true =>
    obtain ⟨k, x0, hf, hx0, hq0, hk0⟩ := findQ_some ha
    rw [hf] at HI
    have HST := Lib.hid (fun w1 (hb : Below w.heap.size w w1) => DelAt.start (w1 := w1) hr h hb hk0 hx0 hq0)
    have HS := Lib.hid hs
    have hkn := (List.getElem?_eq_some_iff.1 hx0).1
    have hk1 : ((k : Nat) : Int) ≠ -1 := by omega
    have hk2 : (((k : Nat) : Int) == -1) = false := by rw [int_beq]; exact decide_eq_false hk1
    clear hr h hs ha hf hx0 hq0 hk0
    go_enter Tryd.func78, Tryd.ntmps78
    go_wp2_with (fail)
    refine HI.out.mono ?_; rintro e w1 ⟨rfl, hb1⟩
    have H0 := Lib.hid (HST.out w1 hb1); clear hb1 HST HI
    go_wp2_with (fail)
    go_loopw [5, 6] (fun u v wr => ∃ (i j : Nat) (l : List Rg), u = .int .i64 i ∧ v = .int .i64 j ∧ j ≤ t.rs.length ∧ i < j ∧ Hid (DelAt w wr g p c t m B e es i j l ∧ ∀ y ∈ l, y.h.size ≤ maxLen)) (fun _ v _ => t.rs.length - (intOf v).toNat)
    case atStart => exact ⟨k, k + 1, t.rs, rfl, by go_num, by omega, by omega, Lib.hid ⟨H0.out, HS.out⟩⟩
    case round =>
      obtain ⟨i, j, l, rfl, rfl, hjn, hij, HD⟩ := hrel
      by_cases hlt : j < t.rs.length
      · have hx : t.rs[j]? = some t.rs[j] := List.getElem?_eq_getElem hlt
        have hlx : l[j]? = some t.rs[j] := by
          have := congrArg (fun z => z[0]?) HD.out.1.dr
          simpa [List.getElem?_drop, hx] using this
        obtain ⟨d0, d1⟩ := HD.out.1.row.cells hlx
        have HX := Lib.hid hx
        have HXs := Lib.hid (HS.out _ (List.getElem_mem hlt))
        have HLe := Lib.hid HD.out.1.row.le
        have HLl := Lib.hid HD.out.1.len
        generalize t.rs[j] = x at *
        clear hx hlx
        obtain ⟨g1, g2, g3⟩ := rg_box wr x _ rfl
        have HBx := Lib.hid g1; have H2 := Lib.hid (HD.out.1.below g2); have HSl := Lib.hid HD.out.2
        clear g1 g2 g3 HD
        go_upto_region 8 with (fail)
        change Code.wp _ _ _ _ (wr.alloc (.cells (regC x) 57))
        generalize wr.alloc (.cells (regC x) 57) = w2 at *
        have k0 : w2.cell? ⟨wr.heap.size, 0, none⟩ = some (.string x.h) := HBx.out.cell 0
        have k1 : w2.cell? ⟨wr.heap.size, 1, none⟩ = some (.int .u64 x.k) := HBx.out.cell 1
        clear d0 d1
        have HQ := Lib.hid (removes_any x w2 p (some ⟨g, 0, none⟩) c { t with rs := l } m B e es H2.out.at_)
        have hqe : isR { t with rs := l } m x = isR t m x := rfl
        rw [hqe] at HQ
        clear hqe
        cases hq : isR t m x with
        | true =>
          rw [hq] at HQ
          have H3 := Lib.hid (H2.out.skip HX.out hq)
          clear hq
          go_wp2_with (fail)
          refine HQ.out.mono ?_; rintro e w3 ⟨rfl, hb3⟩
          have H4 := Lib.hid (H3.out.below hb3)
          clear hb3 k0 k1
          go_wp2_with (fail)
          go_roundw
          case rel => exact ⟨i, j + 1, l, rfl, by go_num, by omega, by omega, Lib.hid ⟨H4.out, HSl.out⟩⟩
          case measure => simp [intOf]; omega
        | false =>
          rw [hq] at HQ
          have HQQ := Lib.hid hq
          clear hq
          go_wp2_with (fail)
          refine HQ.out.mono ?_; rintro e w3 ⟨rfl, hb3⟩
          have H3 := Lib.hid (H2.out.below hb3)
          have HBx3 := Lib.hid (HBx.out.below hb3 HBx.out.lt)
          clear hb3 k0 k1
          have k0 : w3.cell? ⟨wr.heap.size, 0, none⟩ = some (.string x.h) := HBx3.out.cell 0
          have k1 : w3.cell? ⟨wr.heap.size, 1, none⟩ = some (.int .u64 x.k) := HBx3.out.cell 1
          have f0 := H3.out.row.free (i * 2)
          have f1 := H3.out.row.free (i * 2 + 1)
          have hil : i < l.length := by have := HLl.out; omega
          obtain ⟨c0, c1⟩ := H3.out.row.cells (List.getElem?_eq_getElem hil)
          have hii : (i : Int) < t.rs.length := by omega
          have H4 := Lib.hid (H3.out.lay HX.out HQQ.out HXs.out HSl.out)
          go_wp2_with (fail)
          go_roundw
          case rel => exact ⟨i + 1, j + 1, _, by go_num, by go_num, by omega, by omega, Lib.hid H4.out⟩
          case measure => simp [intOf]; omega
      · obtain rfl : j = t.rs.length := by omega
        have hlen := HD.out.1.len
        obtain ⟨w6, hcl, hr6, ho6⟩ := run_clear_rgs wr 0 g c (c - i) l HD.out.1.row i (t.rs.length - i) (by omega) (by omega)
        have R6 := Lib.hid hr6; have O6 := Lib.hid (HD.out.1.on.trans ho6 (fun _ hk => .inl hk)); clear hr6 ho6
        have htk := HD.out.1.tk; have hhi := HD.out.1.hi
        rw [List.take_length] at htk hhi
        have HTK := Lib.hid htk; have HHI := Lib.hid hhi
        clear htk hhi
        have q1 : i ≤ t.rs.length := by omega
        have q2 : ¬ c = i := by omega
        have q3 : i ≤ c := by omega
        go_wp2_with (fail)
        go_ret
        refine ⟨by rw [← HHI.out]; rfl, ?_, O6.out⟩
        have := R6.out.take i
        rw [List.take_append_of_le_length (by rw [List.length_take]; omega), List.take_take, Nat.min_self, HTK.out] at this
        exact this
end Go.Proofs.YtgekadfkokkapaaDoor
