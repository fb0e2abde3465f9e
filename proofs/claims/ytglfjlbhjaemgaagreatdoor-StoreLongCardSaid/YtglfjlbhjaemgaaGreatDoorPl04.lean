/- Which lists are good: the code's Good, the document's; one extent's question of the document. -/
import Derived.Test.YtglfjlbhjaemgaaGreatDoorPl03
namespace Go.Proofs.YtglfjlbhjaemgaaGreatDoor.Ext
open Go.RowKit
/-- Good from here on, p standing ahead. -/
def chainB : Option Ex → List Ex → Bool
  | _, [] => true
  | p, x :: t => fitsB x && ((match p with | none => true | some q => mayB q x) && chainB (some x) t)
def goodB (l : List Ex) : Bool := chainB none l
def prevX (l : List Ex) (k : Nat) : Option Ex := if k = 0 then none else l[k - 1]?
theorem prevX_succ {l : List Ex} {k : Nat} {x : Ex} (h : l[k]? = some x) : prevX l (k + 1) = some x := by unfold prevX; rw [if_neg (by omega), Nat.add_sub_cancel]; exact h
theorem chain_next {l : List Ex} {k : Nat} {x : Ex} (h : l[k]? = some x) (p : Option Ex) : chainB p (l.drop k) = (fitsB x && ((match p with | none => true | some q => mayB q x) && chainB (prevX l (k + 1)) (l.drop (k + 1)))) := by
  obtain ⟨hk, e⟩ := List.getElem?_eq_some_iff.1 h
  rw [prevX_succ h, List.drop_eq_getElem_cons hk, e]
  rfl
/-- Of Good's loop: what is left decides; the one ahead fits. -/
def GoAt (w : World) (l : List Ex) (i : Value) (wr : World) : Prop :=
  ∃ k : Nat, i = .int .i64 k ∧ k ≤ l.length ∧ goodB l = chainB (prevX l k) (l.drop k) ∧ (∀ p, prevX l k = some p → p.Fits) ∧ Below w.heap.size w wr
theorem fits_sums {x : Ex} (h : x.Fits) : -9223372036854775808 ≤ x.l + x.b ∧ x.l + x.b ≤ 9223372036854775807 ∧ -9223372036854775808 ≤ x.a + x.b ∧ x.a + x.b ≤ 9223372036854775807 := by
  unfold Ex.Fits at h; omega
/-- A world with the round's own copy of x, where the list lies as it lay. -/
theorem round_box (w0 : World) (x : Ex) : ∀ v, v = w0.alloc (.cells #[.int .i64 x.l, .int .i64 x.b, .int .i64 x.a] 158) → Blk v w0.heap.size 158 (exC x) ∧ Below w0.heap.size w0 v := by
  rintro v rfl
  exact ⟨Blk.new w0 _ _, (Below.refl _ _).alloc (Nat.le_refl _) _⟩
theorem cells_below {w v : World} {b j : Nat} {x : Ex} (hb : Below w.heap.size w v) (c0 : w.cell? ⟨b, j, none⟩ = some (.int .i64 x.l)) (c1 : w.cell? ⟨b, j + 1, none⟩ = some (.int .i64 x.b)) (c2 : w.cell? ⟨b, j + 2, none⟩ = some (.int .i64 x.a)) :
    v.cell? ⟨b, j, none⟩ = some (.int .i64 x.l) ∧ v.cell? ⟨b, j + 1, none⟩ = some (.int .i64 x.b) ∧ v.cell? ⟨b, j + 2, none⟩ = some (.int .i64 x.a) :=
  ⟨(hb.cell (p := ⟨b, j, none⟩) (World.block_lt_of_cell? _ _ c0)).trans c0, (hb.cell (p := ⟨b, j + 1, none⟩) (World.block_lt_of_cell? _ _ c1)).trans c1, (hb.cell (p := ⟨b, j + 2, none⟩) (World.block_lt_of_cell? _ _ c2)).trans c2⟩
set_option maxRecDepth 100000 in
set_option maxHeartbeats 4000000 in
theorem good_any (A : Option Addr) (c : Nat) (l : List Ex) (w : World) (hl : Exts w A l) (hn : l.length ≤ maxLen) :
    Calls Tryz.prog 139 #[.slice A l.length c] w fun e w' => e = .returned (.bool (goodB l)) ∧ Below w.heap.size w w' := by
  have HL0 := Lib.hid hl; clear hl
  unfold maxLen at hn
  obtain ⟨g, hg⟩ : ∃ g, goodB l = g := ⟨_, rfl⟩
  have HG0 := Lib.hid hg; clear hg
  rw [HG0.out]
  go_enter Tryz.func139, Tryz.ntmps139
  go_wp2_with (fail)
  go_loopw [7] (fun i wr => GoAt w l i wr) (fun i _ => l.length - (intOf i).toNat)
  case atStart => exact ⟨0, rfl, Nat.zero_le _, rfl, fun p h => (by cases h), Below.refl _ _⟩
  case round =>
    obtain ⟨k, rfl, hk, hch, hpf, hbl⟩ := hrel
    have HB0 := Lib.hid hbl; clear hbl
    have HP0 := Lib.hid hpf; have HCH := Lib.hid hch; clear hpf hch
    by_cases hlt : k < l.length
    · have hki : (k : Int) < l.length := by omega
      obtain ⟨b, o, x, rfl, hat, wf, c0, c1, c2⟩ := (HL0.out.below HB0.out).at_ hlt
      have HN := Lib.hid (chain_next hat (prevX l k))
      have HAT := Lib.hid hat; clear hat
      have HFX := Lib.hid (fun v => fits_any x wf v)
      have HWF := Lib.hid wf; clear wf
      go_upto_region 4 with (fail)
      obtain ⟨hbx, hbb⟩ := round_box wr x _ rfl
      generalize hw0 : wr.alloc (.cells #[.int .i64 x.l, .int .i64 x.b, .int .i64 x.a] 158) = w0 at *
      have HB := Lib.hid (HB0.out.trans (hbb.mono HB0.out.size))
      obtain ⟨d0, d1, d2⟩ := cells_below hbb c0 c1 c2
      have HX := Lib.hid hbx
      have HBB := Lib.hid hbb
      clear hw0 hbx hbb c0 c1 c2
      cases hf : fitsB x with
      | false =>
        rw [hf] at HN HFX
        have HG := Lib.hid (show g = false by rw [← HG0.out, HCH.out, HN.out]; rfl)
        obtain ⟨C, hC0, hCl, hCi, hCm⟩ := class_of w0 (fun v => (v.cell? ⟨wr.heap.size, 0, none⟩ = some (.int .i64 x.l) ∧ v.cell? ⟨wr.heap.size, 1, none⟩ = some (.int .i64 x.b) ∧ v.cell? ⟨wr.heap.size, 2, none⟩ = some (.int .i64 x.a)) ∧ True ∧ True) (fun v hb => ⟨blk_cells3 HX.out hb, trivial, trivial⟩)
        have HC0 := Lib.hid hC0; have HL := Lib.hid hCl; have HCi := Lib.hid hCi; have HCm := Lib.hid hCm; have HF := HFX
        clear hC0 hCl hCi hCm hf
        unfold exV at HF
        refine wp_region_class C (by kernel_rfl) (by kernel_rfl) HC0.out ?_
        go_big_quiet_want
        refine quiet_run (v := .agg #[.int .i64 x.l, .int .i64 x.b, .int .i64 x.a]) (fun v hv => by obtain ⟨⟨a0, a1, a2⟩, ⟨b0, b1, b2⟩, c0, c1, c2⟩ := HL.out v hv; go_simp) ?_
        simp only [Act.put, List.setIfInBounds_toArray, List.set_cons_zero, List.set_cons_succ]
        go_big_quiet_on
        go_big_quiet_want
        refine quiet_call (f := 182) (args := #[.agg #[.int .i64 x.l, .int .i64 x.b, .int .i64 x.a]]) (fun v _ => by go_simp) (fun v hv => (HF.out v).mono (fun e w' h => ⟨h.1, HCm.out v w' hv h.2⟩)) ?_
        simp only [Act.put, List.setIfInBounds_toArray, List.set_cons_zero, List.set_cons_succ]
        go_big_quiet_on
        go_big_quiet_want
        refine quiet_run (v := .bool true) (fun v hv => by rfl) ?_
        simp only [Act.put, List.setIfInBounds_toArray, List.set_cons_zero, List.set_cons_succ]
        go_big_quiet_on
        go_big_quiet_want
        go_big_quiet_op
        first | go_big_quiet_on | (refine ⟨_, fun _ _ => rfl, ?_⟩; go_big_quiet_on)
        go_big_quiet_skip
        go_big_quiet_skip
        go_big_quiet_skip
        go_big_quiet_skip
        go_big_quiet_skip
        go_big_quiet_skip
        go_big_quiet_skip
        go_big_quiet_skip
        go_big_quiet_skip
        go_big_quiet_skip
        go_big_quiet_skip
        go_big_quiet_skip
        go_big_quiet_want
        go_big_quiet_op
        first | go_big_quiet_on | (refine ⟨_, fun _ _ => rfl, ?_⟩; go_big_quiet_on)
        refine wpQuiet_nil ?_
        intro w5 hC5
        have HB5 := Lib.hid (HB.out.trans ((HCi.out _ hC5).mono HB.out.size))
        clear hC5
        go_wp2_with (fail)
        go_ret
        exact ⟨by rw [HG.out]; rfl, HB5.out⟩
      | true =>
        rw [hf] at HN HFX
        have hfit := (fitsB_iff x).1 hf
        have HFIT := Lib.hid hfit; clear hfit
        have HP := Lib.hid (fun p (h : prevX l (k + 1) = some p) => (by rw [prevX_succ HAT.out] at h; injection h with h; subst h; exact HFIT.out : p.Fits))
        cases k with
        | zero =>
          have HG := Lib.hid (show goodB l = chainB (prevX l (0 + 1)) (l.drop (0 + 1)) by rw [HCH.out, HN.out]; rfl)
          obtain ⟨C, hC0, hCl, hCi, hCm⟩ := class_of w0 (fun v => (v.cell? ⟨wr.heap.size, 0, none⟩ = some (.int .i64 x.l) ∧ v.cell? ⟨wr.heap.size, 1, none⟩ = some (.int .i64 x.b) ∧ v.cell? ⟨wr.heap.size, 2, none⟩ = some (.int .i64 x.a)) ∧ True ∧ True) (fun v hb => ⟨blk_cells3 HX.out hb, trivial, trivial⟩)
          have HC0 := Lib.hid hC0; have HL := Lib.hid hCl; have HCi := Lib.hid hCi; have HCm := Lib.hid hCm; have HF := HFX
          clear hC0 hCl hCi hCm hf
          unfold exV at HF
          refine wp_region_class C (by kernel_rfl) (by kernel_rfl) HC0.out ?_
          go_big_quiet_want
          refine quiet_run (v := .agg #[.int .i64 x.l, .int .i64 x.b, .int .i64 x.a]) (fun v hv => by obtain ⟨⟨a0, a1, a2⟩, _, _⟩ := HL.out v hv; go_simp) ?_
          simp only [Act.put, List.setIfInBounds_toArray, List.set_cons_zero, List.set_cons_succ]
          go_big_quiet_on
          go_big_quiet_want
          refine quiet_call (f := 182) (args := #[.agg #[.int .i64 x.l, .int .i64 x.b, .int .i64 x.a]]) (fun v _ => by go_simp) (fun v hv => (HF.out v).mono (fun e w' h => ⟨h.1, HCm.out v w' hv h.2⟩)) ?_
          simp only [Act.put, List.setIfInBounds_toArray, List.set_cons_zero, List.set_cons_succ]
          go_big_quiet_on
          go_big_quiet_want
          refine quiet_run (v := .bool false) (fun v hv => by rfl) ?_
          simp only [Act.put, List.setIfInBounds_toArray, List.set_cons_zero, List.set_cons_succ]
          go_big_quiet_on
          go_big_quiet_want
          go_big_quiet_op
          first | go_big_quiet_on | (refine ⟨_, fun _ _ => rfl, ?_⟩; go_big_quiet_on)
          go_big_quiet_want
          go_big_quiet_op
          first | go_big_quiet_on | (refine ⟨_, fun _ _ => rfl, ?_⟩; go_big_quiet_on)
          go_big_quiet_want
          go_big_quiet_op
          first | go_big_quiet_on | (refine ⟨_, fun _ _ => rfl, ?_⟩; go_big_quiet_on)
          go_big_quiet_want
          go_big_quiet_op
          first | go_big_quiet_on | (refine ⟨_, fun _ _ => rfl, ?_⟩; go_big_quiet_on)
          go_big_quiet_skip
          go_big_quiet_skip
          go_big_quiet_skip
          go_big_quiet_skip
          go_big_quiet_skip
          go_big_quiet_skip
          go_big_quiet_skip
          go_big_quiet_skip
          go_big_quiet_want
          go_big_quiet_op
          first | go_big_quiet_on | (refine ⟨_, fun _ _ => rfl, ?_⟩; go_big_quiet_on)
          go_big_quiet_want
          go_big_quiet_op
          first | go_big_quiet_on | (refine ⟨_, fun _ _ => rfl, ?_⟩; go_big_quiet_on)
          refine wpQuiet_nil ?_
          intro w5 hC5
          have HB5 := Lib.hid (HB.out.trans ((HCi.out _ hC5).mono HB.out.size))
          clear hC5
          go_wp2_with (fail)
          go_roundw
          case rel => exact ⟨0 + 1, by go_num, by omega, HG.out, HP.out, HB5.out⟩
          case measure => simp [intOf]; omega
        | succ m =>
          obtain ⟨p, hp⟩ : ∃ p, l[m]? = some p := ⟨_, List.getElem?_eq_getElem (by omega)⟩
          have hpp : prevX l (m + 1) = some p := prevX_succ hp
          have hpfit := HP0.out p hpp
          obtain ⟨s1, s2, s3, s4⟩ := fits_sums hpfit
          have HMX := Lib.hid (fun v => may_any p x v s1 s2 s3 s4)
          have HPP := Lib.hid hpp
          obtain ⟨b', o', e', hcp⟩ := (HL0.out.below HB0.out) (by omega)
          injection e' with e'; injection e' with e1 e2
          subst e1; subst e2
          obtain ⟨_, p0, p1, p2⟩ := (hcp m p hp)
          clear hcp
          obtain ⟨q0, q1, q2⟩ := cells_below HBB.out p0 p1 p2
          clear p0 p1 p2 hp hpp hpfit s1 s2 s3 s4
          have hwm : IntKind.i64.wrap ((m : Int) + 1 - 1) = (m : Int) := by rw [IntKind.wrap_i64]; omega
          have hm0 : (m : Int) < l.length := by omega
          obtain ⟨C, hC0, hCl, hCi, hCm⟩ := class_of w0 (fun v => (v.cell? ⟨wr.heap.size, 0, none⟩ = some (.int .i64 x.l) ∧ v.cell? ⟨wr.heap.size, 1, none⟩ = some (.int .i64 x.b) ∧ v.cell? ⟨wr.heap.size, 2, none⟩ = some (.int .i64 x.a)) ∧ (v.cell? ⟨b, o + m * 3, none⟩ = some (.int .i64 p.l) ∧ v.cell? ⟨b, o + m * 3 + 1, none⟩ = some (.int .i64 p.b) ∧ v.cell? ⟨b, o + m * 3 + 2, none⟩ = some (.int .i64 p.a)) ∧ True) (fun v hb => ⟨blk_cells3 HX.out hb, cells_below hb q0 q1 q2, trivial⟩)
          have HC0 := Lib.hid hC0; have HL := Lib.hid hCl; have HCi := Lib.hid hCi; have HCm := Lib.hid hCm; have HF := HFX
          clear hC0 hCl hCi hCm hf q0 q1 q2
          cases hm : mayB p x with
          | false =>
            rw [hm] at HMX
            have HG := Lib.hid (show g = false by rw [← HG0.out, HCH.out, HN.out, HPP.out]; simp [hm])
            clear hm
            have HM := HMX
            unfold exV at HF HM
            refine wp_region_class C (by kernel_rfl) (by kernel_rfl) HC0.out ?_
            go_big_quiet_want
            refine quiet_run (v := .agg #[.int .i64 x.l, .int .i64 x.b, .int .i64 x.a]) (fun v hv => by obtain ⟨⟨a0, a1, a2⟩, ⟨b0, b1, b2⟩, c0, c1, c2⟩ := HL.out v hv; go_simp) ?_
            simp only [Act.put, List.setIfInBounds_toArray, List.set_cons_zero, List.set_cons_succ]
            go_big_quiet_on
            go_big_quiet_want
            refine quiet_call (f := 182) (args := #[.agg #[.int .i64 x.l, .int .i64 x.b, .int .i64 x.a]]) (fun v _ => by go_simp) (fun v hv => (HF.out v).mono (fun e w' h => ⟨h.1, HCm.out v w' hv h.2⟩)) ?_
            simp only [Act.put, List.setIfInBounds_toArray, List.set_cons_zero, List.set_cons_succ]
            go_big_quiet_on
            go_big_quiet_want
            refine quiet_run (v := .bool false) (fun v hv => by rfl) ?_
            simp only [Act.put, List.setIfInBounds_toArray, List.set_cons_zero, List.set_cons_succ]
            go_big_quiet_on
            go_big_quiet_want
            go_big_quiet_op
            first | go_big_quiet_on | (refine ⟨_, fun _ _ => rfl, ?_⟩; go_big_quiet_on)
            go_big_quiet_want
            go_big_quiet_op
            first | go_big_quiet_on | (refine ⟨_, fun _ _ => rfl, ?_⟩; go_big_quiet_on)
            go_big_quiet_want
            go_big_quiet_op
            first | go_big_quiet_on | (refine ⟨_, fun _ _ => rfl, ?_⟩; go_big_quiet_on)
            go_big_quiet_want
            go_big_quiet_op
            first | go_big_quiet_on | (refine ⟨_, fun _ _ => rfl, ?_⟩; go_big_quiet_on)
            go_big_quiet_want
            go_big_quiet_op
            first | go_big_quiet_on | (refine ⟨_, fun _ _ => rfl, ?_⟩; go_big_quiet_on)
            go_big_quiet_want
            go_big_quiet_op
            first | go_big_quiet_on | (refine ⟨_, fun _ _ => rfl, ?_⟩; go_big_quiet_on)
            go_big_quiet_want
            go_big_quiet_op
            first | go_big_quiet_on | (refine ⟨_, fun _ _ => rfl, ?_⟩; go_big_quiet_on)
            go_big_quiet_want
            refine quiet_run (v := .pointer (some ⟨b, o + m * 3, none⟩)) (fun v hv => by obtain ⟨⟨a0, a1, a2⟩, ⟨b0, b1, b2⟩, c0, c1, c2⟩ := HL.out v hv; go_simp) ?_
            simp only [Act.put, List.setIfInBounds_toArray, List.set_cons_zero, List.set_cons_succ]
            go_big_quiet_on
            go_big_quiet_want
            refine quiet_run (v := .agg #[.int .i64 p.l, .int .i64 p.b, .int .i64 p.a]) (fun v hv => by obtain ⟨⟨a0, a1, a2⟩, ⟨b0, b1, b2⟩, c0, c1, c2⟩ := HL.out v hv; go_simp) ?_
            simp only [Act.put, List.setIfInBounds_toArray, List.set_cons_zero, List.set_cons_succ]
            go_big_quiet_on
            go_big_quiet_want
            refine quiet_run (v := .agg #[.int .i64 x.l, .int .i64 x.b, .int .i64 x.a]) (fun v hv => by obtain ⟨⟨a0, a1, a2⟩, ⟨b0, b1, b2⟩, c0, c1, c2⟩ := HL.out v hv; go_simp) ?_
            simp only [Act.put, List.setIfInBounds_toArray, List.set_cons_zero, List.set_cons_succ]
            go_big_quiet_on
            go_big_quiet_want
            refine quiet_call (f := 183) (args := #[.agg #[.int .i64 p.l, .int .i64 p.b, .int .i64 p.a], .agg #[.int .i64 x.l, .int .i64 x.b, .int .i64 x.a]]) (fun v _ => by go_simp) (fun v hv => (HM.out v).mono (fun e w' h => ⟨h.1, HCm.out v w' hv h.2⟩)) ?_
            simp only [Act.put, List.setIfInBounds_toArray, List.set_cons_zero, List.set_cons_succ]
            go_big_quiet_on
            go_big_quiet_want
            refine quiet_run (v := .bool true) (fun v hv => by rfl) ?_
            simp only [Act.put, List.setIfInBounds_toArray, List.set_cons_zero, List.set_cons_succ]
            go_big_quiet_on
            go_big_quiet_want
            go_big_quiet_op
            first | go_big_quiet_on | (refine ⟨_, fun _ _ => rfl, ?_⟩; go_big_quiet_on)
            go_big_quiet_want
            go_big_quiet_op
            first | go_big_quiet_on | (refine ⟨_, fun _ _ => rfl, ?_⟩; go_big_quiet_on)
            refine wpQuiet_nil ?_
            intro w5 hC5
            have HB5 := Lib.hid (HB.out.trans ((HCi.out _ hC5).mono HB.out.size))
            clear hC5
            go_wp2_with (fail)
            go_ret
            exact ⟨by rw [HG.out]; rfl, HB5.out⟩
          | true =>
            rw [hm] at HMX
            have HG := Lib.hid (show goodB l = chainB (prevX l (m + 1 + 1)) (l.drop (m + 1 + 1)) by rw [HCH.out, HN.out, HPP.out]; simp [hm])
            clear hm
            have HM := HMX
            unfold exV at HF HM
            refine wp_region_class C (by kernel_rfl) (by kernel_rfl) HC0.out ?_
            go_big_quiet_want
            refine quiet_run (v := .agg #[.int .i64 x.l, .int .i64 x.b, .int .i64 x.a]) (fun v hv => by obtain ⟨⟨a0, a1, a2⟩, ⟨b0, b1, b2⟩, c0, c1, c2⟩ := HL.out v hv; go_simp) ?_
            simp only [Act.put, List.setIfInBounds_toArray, List.set_cons_zero, List.set_cons_succ]
            go_big_quiet_on
            go_big_quiet_want
            refine quiet_call (f := 182) (args := #[.agg #[.int .i64 x.l, .int .i64 x.b, .int .i64 x.a]]) (fun v _ => by go_simp) (fun v hv => (HF.out v).mono (fun e w' h => ⟨h.1, HCm.out v w' hv h.2⟩)) ?_
            simp only [Act.put, List.setIfInBounds_toArray, List.set_cons_zero, List.set_cons_succ]
            go_big_quiet_on
            go_big_quiet_want
            refine quiet_run (v := .bool false) (fun v hv => by rfl) ?_
            simp only [Act.put, List.setIfInBounds_toArray, List.set_cons_zero, List.set_cons_succ]
            go_big_quiet_on
            go_big_quiet_want
            go_big_quiet_op
            first | go_big_quiet_on | (refine ⟨_, fun _ _ => rfl, ?_⟩; go_big_quiet_on)
            go_big_quiet_want
            go_big_quiet_op
            first | go_big_quiet_on | (refine ⟨_, fun _ _ => rfl, ?_⟩; go_big_quiet_on)
            go_big_quiet_want
            go_big_quiet_op
            first | go_big_quiet_on | (refine ⟨_, fun _ _ => rfl, ?_⟩; go_big_quiet_on)
            go_big_quiet_want
            go_big_quiet_op
            first | go_big_quiet_on | (refine ⟨_, fun _ _ => rfl, ?_⟩; go_big_quiet_on)
            go_big_quiet_want
            go_big_quiet_op
            first | go_big_quiet_on | (refine ⟨_, fun _ _ => rfl, ?_⟩; go_big_quiet_on)
            go_big_quiet_want
            go_big_quiet_op
            first | go_big_quiet_on | (refine ⟨_, fun _ _ => rfl, ?_⟩; go_big_quiet_on)
            go_big_quiet_want
            go_big_quiet_op
            first | go_big_quiet_on | (refine ⟨_, fun _ _ => rfl, ?_⟩; go_big_quiet_on)
            go_big_quiet_want
            refine quiet_run (v := .pointer (some ⟨b, o + m * 3, none⟩)) (fun v hv => by obtain ⟨⟨a0, a1, a2⟩, ⟨b0, b1, b2⟩, c0, c1, c2⟩ := HL.out v hv; go_simp) ?_
            simp only [Act.put, List.setIfInBounds_toArray, List.set_cons_zero, List.set_cons_succ]
            go_big_quiet_on
            go_big_quiet_want
            refine quiet_run (v := .agg #[.int .i64 p.l, .int .i64 p.b, .int .i64 p.a]) (fun v hv => by obtain ⟨⟨a0, a1, a2⟩, ⟨b0, b1, b2⟩, c0, c1, c2⟩ := HL.out v hv; go_simp) ?_
            simp only [Act.put, List.setIfInBounds_toArray, List.set_cons_zero, List.set_cons_succ]
            go_big_quiet_on
            go_big_quiet_want
            refine quiet_run (v := .agg #[.int .i64 x.l, .int .i64 x.b, .int .i64 x.a]) (fun v hv => by obtain ⟨⟨a0, a1, a2⟩, ⟨b0, b1, b2⟩, c0, c1, c2⟩ := HL.out v hv; go_simp) ?_
            simp only [Act.put, List.setIfInBounds_toArray, List.set_cons_zero, List.set_cons_succ]
            go_big_quiet_on
            go_big_quiet_want
            refine quiet_call (f := 183) (args := #[.agg #[.int .i64 p.l, .int .i64 p.b, .int .i64 p.a], .agg #[.int .i64 x.l, .int .i64 x.b, .int .i64 x.a]]) (fun v _ => by go_simp) (fun v hv => (HM.out v).mono (fun e w' h => ⟨h.1, HCm.out v w' hv h.2⟩)) ?_
            simp only [Act.put, List.setIfInBounds_toArray, List.set_cons_zero, List.set_cons_succ]
            go_big_quiet_on
            go_big_quiet_want
            refine quiet_run (v := .bool false) (fun v hv => by rfl) ?_
            simp only [Act.put, List.setIfInBounds_toArray, List.set_cons_zero, List.set_cons_succ]
            go_big_quiet_on
            go_big_quiet_want
            go_big_quiet_op
            first | go_big_quiet_on | (refine ⟨_, fun _ _ => rfl, ?_⟩; go_big_quiet_on)
            go_big_quiet_want
            go_big_quiet_op
            first | go_big_quiet_on | (refine ⟨_, fun _ _ => rfl, ?_⟩; go_big_quiet_on)
            refine wpQuiet_nil ?_
            intro w5 hC5
            have HB5 := Lib.hid (HB.out.trans ((HCi.out _ hC5).mono HB.out.size))
            clear hC5
            go_wp2_with (fail)
            go_roundw
            case rel => exact ⟨m + 1 + 1, by go_num, by omega, HG.out, HP.out, HB5.out⟩
            case measure => simp [intOf]; omega
    · obtain rfl : k = l.length := by omega
      have HG := Lib.hid (show g = true by rw [← HG0.out, HCH.out, List.drop_length]; cases prevX l l.length <;> rfl)
      go_wp2
      go_ret
      exact ⟨by rw [HG.out]; rfl, HB0.out⟩
end Go.Proofs.YtglfjlbhjaemgaaGreatDoor.Ext
