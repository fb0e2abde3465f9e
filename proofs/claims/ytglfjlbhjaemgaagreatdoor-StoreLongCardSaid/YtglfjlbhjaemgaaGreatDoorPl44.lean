/- store's statements: Same and units. StoreLong's own. StoreLong's own: what is called behind the loop. StoreLong, walked. -/
import Derived.Test.YtglfjlbhjaemgaaGreatDoorPl43
import Derived.Test.YtglfjlbhjaemgaaGreatDoorPl26
import Derived.Test.YtglfjlbhjaemgaaGreatDoorPl41
namespace Go.Proofs.YtglfjlbhjaemgaaGreatDoor
open Go.RowKit
open Ext (Ex Exts exV ExtsF textX)
set_option maxRecDepth 100000 in
set_option maxHeartbeats 4000000 in
theorem same_st (w : World) (A B : Option Addr) (ca cb : Nat) (V : List Un) (h1 : StIn w A V) (h2 : StIn w B V) (hV : V.length ≤ 8) (hn : ∀ u ∈ V, 1 ≤ u.n ∧ u.n ≤ 4096) :
    Calls Tryz.prog 30 #[.slice A V.length ca, .slice B V.length cb] w fun e w' => e = .returned (.bool true) ∧ Below w.heap.size w w' := by
  have H1 := Lib.hid h1; have H2 := Lib.hid h2; have HN := Lib.hid hn
  clear h1 h2 hn
  go_enter Tryz.func30, Tryz.ntmps30
  go_wp2_with (fail)
  go_loopw [5] (fun i v => ∃ k : Nat, i = .int .i64 k ∧ k ≤ V.length ∧ Below w.heap.size w v) (fun i _ => V.length - (intOf i).toNat)
  case atStart => exact ⟨0, rfl, Nat.zero_le _, Below.refl _ _⟩
  case round =>
    obtain ⟨i, rfl, hi, hb⟩ := hrel
    have HB := Lib.hid hb
    clear hb
    generalize wr = v0 at *
    by_cases hlt : i < V.length
    · have hki : (i : Int) < (V.length : Int) := by omega
      have hwk : IntKind.i64.wrap ((i : Int) + 1) = ((i + 1 : Nat) : Int) := by rw [i64w _ (by omega)]; omega
      have hu := List.getElem?_eq_getElem hlt
      have hun := HN.out V[i] (List.getElem_mem _)
      generalize V[i] = u at hu hun
      obtain ⟨b, o, A1, c1, rfl, x0, x2, x3⟩ := H1.out i u hu
      obtain ⟨b2, o2, A2, c2, rfl, y0, y2, y3⟩ := H2.out i u hu
      obtain ⟨C, hC⟩ : ∃ C : World → Prop, C = fun v => Below w.heap.size w v := ⟨_, rfl⟩
      have HC0 : Hid (C v0.drew) := Lib.hid (by rw [hC]; exact HB.out.trans ((Below.refl v0.heap.size v0).drew.mono HB.out.size))
      have HC1 : Hid (∀ v, C v → Below w.heap.size w v) := Lib.hid (fun v hv => by rw [hC] at hv; exact hv)
      have HCm : Hid (∀ v w', C v → Below v.heap.size v w' → C w') := Lib.hid (fun v w' hv hb => by
        rw [hC] at hv ⊢
        exact hv.trans (hb.mono hv.size))
      have HL : Hid (∀ v, C v → v.cell? ⟨b, o + i * 3, none⟩ = some (.slice A1 u.n.toNat c1) ∧ v.cell? ⟨b, o + i * 3 + 2, none⟩ = some (.string u.rc) ∧ v.cell? ⟨b2, o2 + i * 3, none⟩ = some (.slice A2 u.n.toNat c2) ∧ v.cell? ⟨b2, o2 + i * 3 + 2, none⟩ = some (.string u.rc)) := Lib.hid (fun v hv => by
        have hb := HC1.out v hv
        exact ⟨(hb.cell (World.block_lt_of_cell? _ _ x0)).trans x0, (hb.cell (World.block_lt_of_cell? _ _ x2)).trans x2, (hb.cell (World.block_lt_of_cell? _ _ y0)).trans y0, (hb.cell (World.block_lt_of_cell? _ _ y2)).trans y2⟩)
      have HTX : Hid (∀ v, C v → Calls Tryz.prog 84 #[.slice A1 u.n.toNat c1, .slice A2 u.n.toNat c2] v fun e w' => e = .returned (.bool true) ∧ Below v.heap.size v w') := Lib.hid (fun v hv => by
        have hb := HC1.out v hv
        have := texts_any v A1 A2 c1 c2 (unBlks u) (unBlks u) (x3.below hb) (y3.below hb) (by rw [unBlks_len]; omega)
        rw [unBlks_len, decide_eq_true rfl] at this
        exact this)
      obtain ⟨rc, hrc⟩ : ∃ rc, u.rc = rc := ⟨_, rfl⟩
      obtain ⟨nn, hnn⟩ : ∃ nn, u.n.toNat = nn := ⟨_, rfl⟩
      rw [hrc, hnn] at HL
      rw [hnn] at HTX
      clear x0 x2 x3 y0 y2 y3 hu hun hC hrc hnn
      go_upto_region 4 with (fail)
      refine wp_region_class C (by kernel_rfl) (by kernel_rfl) HC0.out ?_
      go_big_quiet_want
      go_big_quiet_op
      first | go_big_quiet_on | (refine ⟨_, fun _ _ => rfl, ?_⟩; go_big_quiet_on)
      go_big_quiet_want
      go_big_quiet_op
      first | go_big_quiet_on | (refine ⟨_, fun _ _ => rfl, ?_⟩; go_big_quiet_on)
      go_big_quiet_want
      refine quiet_run (v := .pointer (some ⟨b, o + i * 3, none⟩)) (fun v hv => by obtain ⟨a0, a2, b0, b2'⟩ := HL.out v hv; go_simp) ?_
      simp only [Act.put, List.setIfInBounds_toArray, List.set_cons_zero, List.set_cons_succ]
      go_big_quiet_on
      go_big_quiet_want
      go_big_quiet_op
      first | go_big_quiet_on | (refine ⟨_, fun _ _ => rfl, ?_⟩; go_big_quiet_on)
      go_big_quiet_want
      refine quiet_run (v := .slice A1 nn c1) (fun v hv => by obtain ⟨a0, a2, b0, b2'⟩ := HL.out v hv; go_simp) ?_
      simp only [Act.put, List.setIfInBounds_toArray, List.set_cons_zero, List.set_cons_succ]
      go_big_quiet_on
      go_big_quiet_want
      go_big_quiet_op
      first | go_big_quiet_on | (refine ⟨_, fun _ _ => rfl, ?_⟩; go_big_quiet_on)
      go_big_quiet_want
      go_big_quiet_op
      first | go_big_quiet_on | (refine ⟨_, fun _ _ => rfl, ?_⟩; go_big_quiet_on)
      go_big_quiet_want
      refine quiet_run (v := .pointer (some ⟨b2, o2 + i * 3, none⟩)) (fun v hv => by obtain ⟨a0, a2, b0, b2'⟩ := HL.out v hv; go_simp) ?_
      simp only [Act.put, List.setIfInBounds_toArray, List.set_cons_zero, List.set_cons_succ]
      go_big_quiet_on
      go_big_quiet_want
      go_big_quiet_op
      first | go_big_quiet_on | (refine ⟨_, fun _ _ => rfl, ?_⟩; go_big_quiet_on)
      go_big_quiet_want
      refine quiet_run (v := .slice A2 nn c2) (fun v hv => by obtain ⟨a0, a2, b0, b2'⟩ := HL.out v hv; go_simp) ?_
      simp only [Act.put, List.setIfInBounds_toArray, List.set_cons_zero, List.set_cons_succ]
      go_big_quiet_on
      go_big_quiet_want
      refine quiet_call (f := 84) (args := #[.slice A1 nn c1, .slice A2 nn c2]) (fun v _ => by go_simp) (fun v hv => (HTX.out v hv).mono (fun e w' h => ⟨h.1, HCm.out v w' hv h.2⟩)) ?_
      simp only [Act.put, List.setIfInBounds_toArray, List.set_cons_zero, List.set_cons_succ]
      go_big_quiet_on
      go_big_quiet_want
      go_big_quiet_op
      first | go_big_quiet_on | (refine ⟨_, fun _ _ => rfl, ?_⟩; go_big_quiet_on)
      go_big_quiet_want
      go_big_quiet_op
      first | go_big_quiet_on | (refine ⟨_, fun _ _ => rfl, ?_⟩; go_big_quiet_on)
      go_big_quiet_want
      go_big_quiet_op
      first | go_big_quiet_on | (refine ⟨_, fun _ _ => rfl, ?_⟩; go_big_quiet_on)
      go_big_quiet_want
      go_big_quiet_op
      first | go_big_quiet_on | (refine ⟨_, fun _ _ => rfl, ?_⟩; go_big_quiet_on)
      go_big_quiet_want
      refine quiet_run (v := .pointer (some ⟨b, o + i * 3, none⟩)) (fun v hv => by obtain ⟨a0, a2, b0, b2'⟩ := HL.out v hv; go_simp) ?_
      simp only [Act.put, List.setIfInBounds_toArray, List.set_cons_zero, List.set_cons_succ]
      go_big_quiet_on
      go_big_quiet_want
      go_big_quiet_op
      first | go_big_quiet_on | (refine ⟨_, fun _ _ => rfl, ?_⟩; go_big_quiet_on)
      go_big_quiet_want
      refine quiet_run (v := .string rc) (fun v hv => by obtain ⟨a0, a2, b0, b2'⟩ := HL.out v hv; go_simp) ?_
      simp only [Act.put, List.setIfInBounds_toArray, List.set_cons_zero, List.set_cons_succ]
      go_big_quiet_on
      go_big_quiet_want
      go_big_quiet_op
      first | go_big_quiet_on | (refine ⟨_, fun _ _ => rfl, ?_⟩; go_big_quiet_on)
      go_big_quiet_want
      go_big_quiet_op
      first | go_big_quiet_on | (refine ⟨_, fun _ _ => rfl, ?_⟩; go_big_quiet_on)
      go_big_quiet_want
      refine quiet_run (v := .pointer (some ⟨b2, o2 + i * 3, none⟩)) (fun v hv => by obtain ⟨a0, a2, b0, b2'⟩ := HL.out v hv; go_simp) ?_
      simp only [Act.put, List.setIfInBounds_toArray, List.set_cons_zero, List.set_cons_succ]
      go_big_quiet_on
      go_big_quiet_want
      go_big_quiet_op
      first | go_big_quiet_on | (refine ⟨_, fun _ _ => rfl, ?_⟩; go_big_quiet_on)
      go_big_quiet_want
      refine quiet_run (v := .string rc) (fun v hv => by obtain ⟨a0, a2, b0, b2'⟩ := HL.out v hv; go_simp) ?_
      simp only [Act.put, List.setIfInBounds_toArray, List.set_cons_zero, List.set_cons_succ]
      go_big_quiet_on
      go_big_quiet_want
      go_big_quiet_op
      first | go_big_quiet_on | (refine ⟨_, fun _ _ => rfl, ?_⟩; go_big_quiet_on)
      go_big_quiet_want
      go_big_quiet_op
      first | go_big_quiet_on | (refine ⟨_, fun _ _ => rfl, ?_⟩; go_big_quiet_on)
      refine wpQuiet_nil ?_
      intro w6 hC6
      have HB6 := Lib.hid (HC1.out w6 hC6)
      clear hC6 HC0 HC1 HCm HL HTX
      go_wp2_with (fail)
      exact ⟨⟨i + 1, rfl, hlt, HB6.out⟩, by simp only [intOf]; omega⟩
    · obtain rfl : i = V.length := by omega
      have hki : ¬ (V.length : Int) < (V.length : Int) := by omega
      go_wp2_with (fail)
      go_ret
      exact ⟨rfl, HB.out⟩
set_option maxRecDepth 100000 in
set_option maxHeartbeats 4000000 in
theorem units_st (w : World) (A B : Option Addr) (ca cb : Nat) (l : List (Int × ByteArray)) (h1 : Uns w A l) (h2 : Uns w B l) (hV : l.length ≤ 8) :
    Calls Tryz.prog 31 #[.slice A l.length ca, .slice B l.length cb] w fun e w' => e = .returned (.bool true) ∧ Below w.heap.size w w' := by
  have H1 := Lib.hid h1; have H2 := Lib.hid h2
  clear h1 h2
  have hll : ¬ ¬ (l.length : Int) = (l.length : Int) := fun h => h rfl
  go_enter Tryz.func31, Tryz.ntmps31
  go_wp2_with (fail)
  go_loopw [5] (fun i v => ∃ k : Nat, i = .int .i64 k ∧ k ≤ l.length ∧ Below w.heap.size w v) (fun i _ => l.length - (intOf i).toNat)
  case atStart => exact ⟨0, rfl, Nat.zero_le _, Below.refl _ _⟩
  case round =>
    obtain ⟨i, rfl, hi, hb⟩ := hrel
    have HB := Lib.hid hb
    clear hb
    generalize wr = v0 at *
    by_cases hlt : i < l.length
    · have hki : (i : Int) < (l.length : Int) := by omega
      have hwk : IntKind.i64.wrap ((i : Int) + 1) = ((i + 1 : Nat) : Int) := by rw [i64w _ (by omega)]; omega
      obtain ⟨b, o, u, rfl, hu, x0, x1⟩ := H1.out.at_ hlt
      obtain ⟨b2, o2, u', rfl, hu', y0, y1⟩ := H2.out.at_ hlt
      rw [hu] at hu'
      obtain rfl := Option.some.inj hu'
      obtain ⟨un, ui⟩ := u
      simp only at x0 x1 y0 y1
      obtain ⟨C, hC⟩ : ∃ C : World → Prop, C = fun v => Below w.heap.size w v := ⟨_, rfl⟩
      have HC0 : Hid (C v0.drew) := Lib.hid (by rw [hC]; exact HB.out.trans ((Below.refl v0.heap.size v0).drew.mono HB.out.size))
      have HC1 : Hid (∀ v, C v → Below w.heap.size w v) := Lib.hid (fun v hv => by rw [hC] at hv; exact hv)
      have HL : Hid (∀ v, C v → v.cell? ⟨b, o + i * 2, none⟩ = some (.int .i64 un) ∧ v.cell? ⟨b, o + i * 2 + 1, none⟩ = some (.string ui) ∧ v.cell? ⟨b2, o2 + i * 2, none⟩ = some (.int .i64 un) ∧ v.cell? ⟨b2, o2 + i * 2 + 1, none⟩ = some (.string ui)) := Lib.hid (fun v hv => by
        have hb := HC1.out v hv
        exact ⟨(hb.cell (World.block_lt_of_cell? _ _ x0)).trans x0, (hb.cell (World.block_lt_of_cell? _ _ x1)).trans x1, (hb.cell (World.block_lt_of_cell? _ _ y0)).trans y0, (hb.cell (World.block_lt_of_cell? _ _ y1)).trans y1⟩)
      clear x0 x1 y0 y1 hu hC hu'
      go_upto_region 6 with (fail)
      refine wp_region_class C (by kernel_rfl) (by kernel_rfl) HC0.out ?_
      go_big_quiet_want
      go_big_quiet_op
      first | go_big_quiet_on | (refine ⟨_, fun _ _ => rfl, ?_⟩; go_big_quiet_on)
      go_big_quiet_want
      go_big_quiet_op
      first | go_big_quiet_on | (refine ⟨_, fun _ _ => rfl, ?_⟩; go_big_quiet_on)
      go_big_quiet_want
      refine quiet_run (v := .pointer (some ⟨b, o + i * 2, none⟩)) (fun v hv => by obtain ⟨a0, a1, b0, b1'⟩ := HL.out v hv; go_simp) ?_
      simp only [Act.put, List.setIfInBounds_toArray, List.set_cons_zero, List.set_cons_succ]
      go_big_quiet_on
      go_big_quiet_want
      go_big_quiet_op
      first | go_big_quiet_on | (refine ⟨_, fun _ _ => rfl, ?_⟩; go_big_quiet_on)
      go_big_quiet_want
      refine quiet_run (v := .int .i64 un) (fun v hv => by obtain ⟨a0, a1, b0, b1'⟩ := HL.out v hv; go_simp) ?_
      simp only [Act.put, List.setIfInBounds_toArray, List.set_cons_zero, List.set_cons_succ]
      go_big_quiet_on
      go_big_quiet_want
      go_big_quiet_op
      first | go_big_quiet_on | (refine ⟨_, fun _ _ => rfl, ?_⟩; go_big_quiet_on)
      go_big_quiet_want
      go_big_quiet_op
      first | go_big_quiet_on | (refine ⟨_, fun _ _ => rfl, ?_⟩; go_big_quiet_on)
      go_big_quiet_want
      refine quiet_run (v := .pointer (some ⟨b2, o2 + i * 2, none⟩)) (fun v hv => by obtain ⟨a0, a1, b0, b1'⟩ := HL.out v hv; go_simp) ?_
      simp only [Act.put, List.setIfInBounds_toArray, List.set_cons_zero, List.set_cons_succ]
      go_big_quiet_on
      go_big_quiet_want
      go_big_quiet_op
      first | go_big_quiet_on | (refine ⟨_, fun _ _ => rfl, ?_⟩; go_big_quiet_on)
      go_big_quiet_want
      refine quiet_run (v := .int .i64 un) (fun v hv => by obtain ⟨a0, a1, b0, b1'⟩ := HL.out v hv; go_simp) ?_
      simp only [Act.put, List.setIfInBounds_toArray, List.set_cons_zero, List.set_cons_succ]
      go_big_quiet_on
      go_big_quiet_want
      go_big_quiet_op
      first | go_big_quiet_on | (refine ⟨_, fun _ _ => rfl, ?_⟩; go_big_quiet_on)
      go_big_quiet_want
      go_big_quiet_op
      first | go_big_quiet_on | (refine ⟨_, fun _ _ => rfl, ?_⟩; go_big_quiet_on)
      go_big_quiet_want
      go_big_quiet_op
      first | go_big_quiet_on | (refine ⟨_, fun _ _ => rfl, ?_⟩; go_big_quiet_on)
      go_big_quiet_want
      go_big_quiet_op
      first | go_big_quiet_on | (refine ⟨_, fun _ _ => rfl, ?_⟩; go_big_quiet_on)
      go_big_quiet_want
      refine quiet_run (v := .pointer (some ⟨b, o + i * 2, none⟩)) (fun v hv => by obtain ⟨a0, a1, b0, b1'⟩ := HL.out v hv; go_simp) ?_
      simp only [Act.put, List.setIfInBounds_toArray, List.set_cons_zero, List.set_cons_succ]
      go_big_quiet_on
      go_big_quiet_want
      go_big_quiet_op
      first | go_big_quiet_on | (refine ⟨_, fun _ _ => rfl, ?_⟩; go_big_quiet_on)
      go_big_quiet_want
      refine quiet_run (v := .string ui) (fun v hv => by obtain ⟨a0, a1, b0, b1'⟩ := HL.out v hv; go_simp) ?_
      simp only [Act.put, List.setIfInBounds_toArray, List.set_cons_zero, List.set_cons_succ]
      go_big_quiet_on
      go_big_quiet_want
      go_big_quiet_op
      first | go_big_quiet_on | (refine ⟨_, fun _ _ => rfl, ?_⟩; go_big_quiet_on)
      go_big_quiet_want
      go_big_quiet_op
      first | go_big_quiet_on | (refine ⟨_, fun _ _ => rfl, ?_⟩; go_big_quiet_on)
      go_big_quiet_want
      refine quiet_run (v := .pointer (some ⟨b2, o2 + i * 2, none⟩)) (fun v hv => by obtain ⟨a0, a1, b0, b1'⟩ := HL.out v hv; go_simp) ?_
      simp only [Act.put, List.setIfInBounds_toArray, List.set_cons_zero, List.set_cons_succ]
      go_big_quiet_on
      go_big_quiet_want
      go_big_quiet_op
      first | go_big_quiet_on | (refine ⟨_, fun _ _ => rfl, ?_⟩; go_big_quiet_on)
      go_big_quiet_want
      refine quiet_run (v := .string ui) (fun v hv => by obtain ⟨a0, a1, b0, b1'⟩ := HL.out v hv; go_simp) ?_
      simp only [Act.put, List.setIfInBounds_toArray, List.set_cons_zero, List.set_cons_succ]
      go_big_quiet_on
      go_big_quiet_want
      go_big_quiet_op
      first | go_big_quiet_on | (refine ⟨_, fun _ _ => rfl, ?_⟩; go_big_quiet_on)
      go_big_quiet_want
      go_big_quiet_op
      first | go_big_quiet_on | (refine ⟨_, fun _ _ => rfl, ?_⟩; go_big_quiet_on)
      refine wpQuiet_nil ?_
      intro w6 hC6
      have HB6 := Lib.hid (HC1.out w6 hC6)
      clear hC6 HC0 HC1 HL
      go_wp2_with (fail)
      exact ⟨⟨i + 1, rfl, hlt, HB6.out⟩, by simp only [intOf]; omega⟩
    · obtain rfl : i = l.length := by omega
      have hki : ¬ (l.length : Int) < (l.length : Int) := by omega
      go_wp2_with (fail)
      go_ret
      exact ⟨rfl, HB.out⟩
open Go.RowKit
open Ext (Ex Exts exV ExtsF textX)
def lgL : List (Int × ByteArray) := [(3, idB 2), (1, idB 3)]
def lgOk (V : List Un) : Prop := (V.map fun u => (u.n, u.id)) = lgL
theorem lg_len {V : List Un} (h : lgOk V) : V.length = 2 := by
  have := congrArg List.length h
  simpa [lgL] using this
theorem lg_at {V : List Un} (h : lgOk V) {j : Nat} (hj : j < 2) : ∃ u, V[j]? = some u ∧ 1 ≤ u.n ∧ (j = 0 → u.n = 3) := by
  have hl := lg_len h
  have hu := List.getElem?_eq_getElem (show j < V.length by omega)
  generalize V[j] = u at hu
  have e : (V.map fun u => (u.n, u.id))[j]? = some (u.n, u.id) := by rw [List.getElem?_map, hu]; rfl
  rw [show (V.map fun u => (u.n, u.id)) = lgL from h] at e
  refine ⟨u, hu, ?_⟩
  match j, hj with
  | 0, _ =>
    have := Option.some.inj e
    injection this with e1 _
    exact ⟨by omega, fun _ => e1.symm⟩
  | 1, _ =>
    have := Option.some.inj e
    injection this with e1 _
    exact ⟨by omega, fun h => by omega⟩
theorem lg_set {V : List Un} (h : lgOk V) {j : Nat} {u u' : Un} (hu : V[j]? = some u) (hn : u'.n = u.n) (hi : u'.id = u.id) : lgOk (V.set j u') := by
  have hj := (List.getElem?_eq_some_iff.1 hu).1
  unfold lgOk at h ⊢
  rw [← h, List.map_set]
  apply List.ext_getElem?
  intro i
  by_cases e : i = j
  · subst e
    rw [List.getElem?_set_self (by simpa using hj), List.getElem?_map, hu]
    show some (u'.n, u'.id) = some (u.n, u.id)
    rw [hn, hi]
  · rw [List.getElem?_set_ne (Ne.symm e)]
theorem lg_write {w0 w : World} {s p q m : Nat} {V Vp : List Un} (h : Us w0 w s p q 584 V Vp m) (hV : lgOk V) (hm : m ≤ 500) {j : Nat} (hj : j < 2) (d : ByteArray) (hd : d.size = 512) :
    Calls Tryz.prog 18 #[.pointer (some ⟨s, 0, none⟩), .int .i64 (j : Int), .int .i64 0, .string d] w fun e w' => e = .returned (.int .i64 0) ∧ ∃ V' Vp', lgOk V' ∧ Us w0 w' s p q 584 V' Vp' (m + 1) := by
  obtain ⟨u, hu, h1, _⟩ := lg_at hV hj
  refine (write_us h hm hu (lba := 0) (k := 1) (by show (0 : Int) + 1 ≤ u.n; omega) (by omega) d (by omega)).mono ?_
  rintro e w' ⟨rfl, Vp', _, hus⟩
  exact ⟨rfl, _, Vp', lg_set hV hu (u' := u.wr 0 1 d) rfl rfl, hus⟩
theorem lg_record {w0 w : World} {s p q m : Nat} {V Vp : List Un} (h : Us w0 w s p q 584 V Vp m) (hV : lgOk V) (hm : m ≤ 500) {j : Nat} (hj : j < 2) (d : ByteArray) (hd : d.size ≤ 2048) :
    Calls Tryz.prog 26 #[.pointer (some ⟨s, 0, none⟩), .int .i64 (j : Int), .string d] w fun e w' => e = .returned (.int .i64 0) ∧ ∃ V' Vp', lgOk V' ∧ Us w0 w' s p q 584 V' Vp' (m + 1) := by
  obtain ⟨u, hu, h1, _⟩ := lg_at hV hj
  refine (record_us h hm hu d hd).mono ?_
  rintro e w' ⟨rfl, Vp', _, hus⟩
  exact ⟨rfl, _, Vp', lg_set hV hu (u' := u.re d) rfl rfl, hus⟩
theorem rng_one (w : World) : RngI (w.alloc (.cells #[.int .i64 1, .int .i64 2] 51)) (some ⟨w.heap.size, 0, none⟩) [(1, 2)] := fun _ => by
  refine ⟨w.heap.size, 0, rfl, fun j r hr => ?_⟩
  have hb := Blk.new w 51 #[.int .i64 1, .int .i64 2]
  match j, hr with
  | 0, hr =>
    obtain rfl : ((1 : Int), (2 : Int)) = r := by simpa using hr
    exact ⟨(hb.cell 0).trans rfl, (hb.cell 1).trans rfl⟩
theorem lg_clear {w0 v : World} {s p q m : Nat} {V Vp : List Un} (h : Us w0 v s p q 584 V Vp m) (hV : lgOk V) (hm : m ≤ 500) :
    Calls Tryz.prog 27 #[.pointer (some ⟨s, 0, none⟩), .int .i64 0, .slice (some ⟨v.heap.size, 0, none⟩) 1 1] (v.alloc (.cells #[.int .i64 1, .int .i64 2] 51)) fun e w' => e = .returned (.int .i64 0) ∧ ∃ V' Vp', lgOk V' ∧ Us w0 w' s p q 584 V' Vp' (m + 1) := by
  obtain ⟨u, hu, h1, h3⟩ := lg_at hV (j := 0) (by omega)
  have hb := (Below.refl v.heap.size v).alloc (Nat.le_refl _) (.cells #[.int .i64 1, .int .i64 2] 51)
  refine (clear_us h hb hm (lun := 0) hu (some ⟨v.heap.size, 0, none⟩) 1 [(1, 2)] (rng_one v) (fun _ a ha => .inr (by obtain rfl := Option.some.inj ha; exact Nat.le_refl _)) (by decide) (by rw [h3 rfl]; decide) (fun r hr => by rw [List.mem_singleton.1 hr]; exact ⟨by decide, by decide⟩)).mono ?_
  rintro e w' ⟨rfl, Vp', _, hus⟩
  exact ⟨rfl, _, Vp', lg_set hV hu (u' := u.cl (natR [(1, 2)])) rfl rfl, hus⟩
theorem lg_new : lgOk (lgL.map newU) := by
  unfold lgOk
  rw [List.map_map]
  rfl
theorem lg_ok : ∀ u ∈ lgL, 1 ≤ u.1 ∧ u.1 ≤ 4096 ∧ u.2.size = 16 := by
  intro u hu
  simp only [lgL, List.mem_cons, List.not_mem_nil, or_false] at hu
  rcases hu with rfl | rfl
  · exact ⟨by decide, by decide, idB_size 2⟩
  · exact ⟨by decide, by decide, idB_size 3⟩
theorem uns_two (w : World) : Uns (w.alloc (.cells #[.int .i64 3, .string (idB 2), .int .i64 1, .string (idB 3)] 27)) (some ⟨w.heap.size, 0, none⟩) lgL := fun _ => by
  refine ⟨w.heap.size, 0, rfl, fun j u hu => ?_⟩
  have hb := Blk.new w 27 #[.int .i64 3, .string (idB 2), .int .i64 1, .string (idB 3)]
  match j, hu with
  | 0, hu =>
    obtain rfl : ((3 : Int), idB 2) = u := by simpa [lgL] using hu
    exact ⟨(hb.cell 0).trans rfl, (hb.cell 1).trans rfl⟩
  | 1, hu =>
    obtain rfl : ((1 : Int), idB 3) = u := by simpa [lgL] using hu
    exact ⟨(hb.cell 2).trans rfl, (hb.cell 3).trans rfl⟩
theorem Uns.keep {w w' : World} {g : Nat} {l : List (Int × ByteArray)} (h : Uns w (some ⟨g, 0, none⟩) l) (hk : w'.heap[g]? = w.heap[g]?) : Uns w' (some ⟨g, 0, none⟩) l := fun hn => by
  obtain ⟨b, o, e, k⟩ := h hn
  have e' := Option.some.inj e
  injection e' with e1 e2
  subst e1 e2
  exact ⟨g, 0, rfl, fun j u hu => ⟨(World.cell?_of_block (a := ⟨g, 0 + j * 2, none⟩) hk).trans (k j u hu).1, (World.cell?_of_block (a := ⟨g, 0 + j * 2 + 1, none⟩) hk).trans (k j u hu).2⟩⟩
open Go.RowKit
open Ext (Ex Exts exV ExtsF textX)
theorem lg_each {V : List Un} (h : lgOk V) : ∀ u ∈ V, 1 ≤ u.n ∧ u.n ≤ 4096 := fun u hu => by
  have hm : (u.n, u.id) ∈ V.map fun u => (u.n, u.id) := List.mem_map.2 ⟨u, hu, rfl⟩
  rw [show (V.map fun u => (u.n, u.id)) = lgL from h] at hm
  exact ⟨(lg_ok _ hm).1, (lg_ok _ hm).2.1⟩
theorem lg_seen {w0 v : World} {K1 : Nat → Prop} {s p q m : Nat} {V Vp : List Un} (h : Uk w0 v K1 s p q 584 V Vp m) (hV : lgOk V) (ht : Tab w0) (A : Option Addr) (c : Nat) (hl : Uns w0 A lgL) :
    Calls Tryz.prog 29 #[.pointer (some ⟨s, 0, none⟩), .slice A 2 c] v fun e w' => ∃ K A' c' xs, e = .returned (.tuple #[.slice A' 2 c', .bool true]) ∧ Uk w0 w' K s p q 584 V Vp m ∧ Oux w' K V (.slice A' 2 c') xs ∧ ∀ k, K1 k → K k ∧ w'.heap[k]? = v.heap[k]? := by
  have hn := lg_len hV
  have key := seen_uk h ht A c (by rw [show (V.map fun u => (u.n, u.id)) = lgL from hV]; exact hl)
  rw [show Value.slice A V.length c = Value.slice A 2 c by rw [hn]] at key
  refine key.mono ?_
  rintro e w' ⟨K, ov, xs, rfl, ho, hk⟩
  have hx := ho.oux
  obtain ⟨A', c', rfl, _⟩ := hx.st
  rw [show Value.slice A' V.length c' = Value.slice A' 2 c' by rw [hn]] at hx ⊢
  exact ⟨K, A', c', xs, rfl, ho.uk, hx, hk⟩
theorem lg_same {v : World} {K1 K2 : Nat → Prop} {V : List Un} (hV : lgOk V) {A B : Option Addr} {ca cb : Nat} {xs ys : List Value} (h1 : Oux v K1 V (.slice A 2 ca) xs) (h2 : Oux v K2 V (.slice B 2 cb) ys) :
    Calls Tryz.prog 30 #[.slice A 2 ca, .slice B 2 cb] v fun e w' => e = .returned (.bool true) ∧ Below v.heap.size v w' := by
  have hn := lg_len hV
  obtain ⟨A1, c1, e1, s1⟩ := h1.st
  obtain ⟨B1, d1, e2, s2⟩ := h2.st
  rw [hn] at e1 e2
  injection e1 with e1 _ _
  injection e2 with e2 _ _
  subst e1 e2
  have key := same_st v A B ca cb V s1 s2 (by omega) (lg_each hV)
  rw [hn] at key
  exact key
theorem lg_units {v : World} {A B : Option Addr} {ca cb : Nat} (h1 : Uns v A lgL) (h2 : Uns v B lgL) :
    Calls Tryz.prog 31 #[.slice A 2 ca, .slice B 2 cb] v fun e w' => e = .returned (.bool true) ∧ Below v.heap.size v w' :=
  units_st v A B ca cb lgL h1 h2 (by decide)
theorem lg_list {w0 v : World} {s p q m : Nat} {V Vp : List Un} (h : Us w0 v s p q 584 V Vp m) (hV : lgOk V) :
    Calls Tryz.prog 28 #[.pointer (some ⟨s, 0, none⟩)] v fun e w' => ∃ g, e = .returned (.slice (some ⟨g, 0, none⟩) 2 2) ∧ Uns w' (some ⟨g, 0, none⟩) lgL ∧ Uk w0 w' (fun k => k = g) s p q 584 V Vp m := by
  have hn := lg_len hV
  refine (units_uk h).mono ?_
  rintro e w' ⟨g, rfl, hu, hk⟩
  rw [show (V.map fun u => (u.n, u.id)) = lgL from hV] at hu
  exact ⟨g, by rw [hn], hu, hk⟩
/-- The loop, on its way. -/
def LgAt (w0 : World) (s p q k : Nat) (i : Value) (v : World) : Prop :=
  ∃ (m : Nat) (V Vp : List Un), i = .int .i64 (m : Int) ∧ m ≤ k ∧ lgOk V ∧ Us w0 v s p q 584 V Vp (m + 1)
theorem LgAt.next {w0 v : World} {s p q k m : Nat} (h : ∃ V Vp, lgOk V ∧ Us w0 v s p q 584 V Vp (m + 1 + 1)) (hm : m < k) : LgAt w0 s p q k (.int .i64 ((m + 1 : Nat) : Int)) v := by
  obtain ⟨V, Vp, h1, h2⟩ := h
  exact ⟨m + 1, V, Vp, rfl, hm, h1, h2⟩
theorem u8_ofNat (k : Nat) : IntKind.u8.wrap (k : Int) = ((UInt8.ofNat k).toNat : Int) := by
  rw [IntKind.wrap_u8, UInt8.toNat_ofNat']
  omega
theorem u8_sum (b : UInt8) (k : Nat) : IntKind.u8.wrap ((b.toNat : Int) + IntKind.u8.wrap (k : Int)) = ((b + UInt8.ofNat k).toNat : Int) := by
  rw [UInt8.toNat_add, IntKind.wrap_u8, IntKind.wrap_u8, UInt8.toNat_ofNat']
  have := b.toNat_lt
  omega
open Go.RowKit
open Ext (Ex Exts exV ExtsF textX)
set_option maxRecDepth 100000 in
set_option maxHeartbeats 4000000 in
theorem storeLong_any (n : Int) (f : UInt8) (w : World) (ht : Tab w) :
    Calls Tryz.prog 4 #[.int .i64 n, .int .u8 (f.toNat : Int)] w fun e w' => e = .returned (.bool true) ∧ Below w.heap.size w w' := by
  obtain ⟨k, hk⟩ : ∃ k : Nat, n % 400 = (k : Int) := ⟨(n % 400).toNat, by omega⟩
  have hk4 : k < 400 := by omega
  have HID2 : Hid (∀ v, Calls Tryz.prog 12 #[.int .u8 2] v fun e w' => e = .returned (.string (idB 2)) ∧ Below v.heap.size v w') := Lib.hid (fun v => id_any 2 v)
  have HID3 : Hid (∀ v, Calls Tryz.prog 12 #[.int .u8 3] v fun e w' => e = .returned (.string (idB 3)) ∧ Below v.heap.size v w') := Lib.hid (fun v => id_any 3 v)
  have HND : Hid (∀ v A, Uns v A lgL → Calls Tryz.prog 14 #[.slice A 2 2] v fun e w' => e = .returned (.int .i64 584) ∧ Below v.heap.size v w') := Lib.hid (fun v A hv => needs_any A 2 lgL v hv (fun u hu => ⟨(lg_ok u hu).1, (lg_ok u hu).2.1⟩) (by decide))
  have HNW : Hid (∀ v, Calls Tryz.prog 13 #[.int .i64 584] v (NewOk v 584)) := Lib.hid (fun v => new_ok v 584 (by omega) (by omega))
  have HFM : Hid (∀ u v F p A, Tab u → Below u.heap.size u v → Dv v F p 584 (St.new 584) → (∀ k, F k → u.heap.size ≤ k) → Uns v A lgL → Calls Tryz.prog 15 #[.pointer (some ⟨p, 0, none⟩), .slice A 2 2] v fun e w' => ∃ s q, e = .returned (.tuple #[.pointer (some ⟨s, 0, none⟩), .int .i64 0]) ∧ Us u w' s p q 584 (lgL.map newU) (lgL.map newU) 1) := Lib.hid (fun u v F p A ht hb hv hF hu => format_us hb hv hF ht A 2 lgL hu lg_ok (by decide) (by decide) (by rw [need_sum]; decide) (by decide))
  have HMK : Hid (∀ v, Calls Tryz.prog 16 #[.int .i64 n, .int .i64 400] v fun e w' => e = .returned (.int .i64 (k : Int)) ∧ v = w') := Lib.hid (fun v => by rw [← hk]; exact mod_any n 400 (by omega) (by omega) v)
  have HBK := Lib.hid (fun m v => block_any (f + UInt8.ofNat m) v)
  have HF3 : Hid (∀ m v, Calls Tryz.prog 17 #[.int .i64 3, .int .u8 ((UInt8.ofNat m).toNat : Int)] v fun e w' => e = .returned (.string (fillB (UInt8.ofNat m) 3)) ∧ Below v.heap.size v w') := Lib.hid (fun m v => fill_any 3 (UInt8.ofNat m) v (by omega))
  have HUO := Lib.hid (fun (v : World) => uns_two v)
  have HWK := Lib.hid (fun v (hb : Below w.heap.size w v) => wakes_any v (ht.below hb))
  have HTB := Lib.hid (fun v (hb : Below w.heap.size w v) => ht.below hb)
  have HK4 := Lib.hid hk4
  generalize idB 2 = i2 at *
  generalize idB 3 = i3 at *
  clear ht hk hk4
  go_enter Tryz.func4, Tryz.ntmps4
  go_wp2_with (fail)
  refine (HID2.out _).mono ?_; rintro e w1 ⟨rfl, hb1⟩
  have B1 := Lib.hid hb1
  clear hb1 HID2
  go_wp2_with (fail)
  refine (HID3.out _).mono ?_; rintro e w2 ⟨rfl, hb⟩
  have B2 := Lib.hid (B1.out.trans (hb.mono B1.out.size))
  clear hb HID3 B1
  have HU := Lib.hid (HUO.out w2)
  have HAL := Lib.hid ((Below.refl w2.heap.size w2).alloc (Nat.le_refl _) (.cells #[.int .i64 3, .string i2, .int .i64 1, .string i3] 27))
  clear HUO
  go_wp2_with (fail)
  generalize (w2.alloc (.cells #[.int .i64 3, .string i2, .int .i64 1, .string i3] 27)) = wz at *
  have HB0 := Lib.hid (B2.out.trans (HAL.out.mono B2.out.size))
  have HTZ := Lib.hid (HTB.out wz HB0.out)
  refine (HND.out _ _ HU.out).mono ?_; rintro e w4 ⟨rfl, hb2⟩
  have C2 := Lib.hid hb2
  have HU2 := Lib.hid (HU.out.below hb2)
  clear hb2 HND
  go_wp2_with (fail)
  refine (HNW.out _).mono ?_; rintro e w5 ⟨p, F, rfl, hdv, hb3, hF⟩
  have HDV := Lib.hid hdv
  have C3 := Lib.hid (C2.out.trans (hb3.mono C2.out.size))
  have HU3 := Lib.hid (HU2.out.below hb3)
  have HF := Lib.hid (fun k (hk : F k) => Nat.le_trans C2.out.size (hF k hk))
  clear hdv hb3 hF HNW
  go_wp2_with (fail)
  refine (HFM.out wz _ F p _ HTZ.out C3.out HDV.out HF.out HU3.out).mono ?_; rintro e w6 ⟨s, q, rfl, hus⟩
  have HS := Lib.hid hus
  clear hus HFM HDV HU3 HF HU2 C2 C3 HAL B2 HTB
  go_wp2_with (fail)
  refine (HMK.out _).mono ?_; rintro e w7 ⟨rfl, rfl⟩
  clear HMK
  go_wp2_with (fail)
  go_loopw [11] (fun i v => LgAt wz s p q k i v) (fun i _ => k - (intOf i).toNat)
  case atStart => exact ⟨0, _, _, rfl, Nat.zero_le _, lg_new, HS.out⟩
  case round =>
    obtain ⟨m, V, Vp, rfl, hm, hvk, hus⟩ := hrel
    have HVK := Lib.hid hvk; have HS1 := Lib.hid hus
    clear hvk hus HS
    generalize wr = v at *
    have hk4 := HK4.out
    by_cases hlt : m < k
    · have hmi : (m : Int) < (k : Int) := by omega
      have hwk : IntKind.i64.wrap ((m : Int) + 1) = ((m + 1 : Nat) : Int) := by rw [i64w _ (by omega)]; omega
      have hm5 : m + 1 ≤ 500 := by omega
      have h5 : (m : Int).tmod 5 = (m : Int) % 5 := Int.tmod_eq_emod_of_nonneg (by omega)
      obtain ⟨r, hr⟩ : ∃ r : Int, (m : Int) % 5 = r := ⟨_, rfl⟩
      have hr0 : 0 ≤ r ∧ r < 5 := by omega
      obtain ⟨j, hj⟩ : ∃ j : Nat, (m : Int) % 2 = (j : Int) := ⟨m % 2, by omega⟩
      have hj2 : j < 2 := by omega
      have h2 : (m : Int).tmod 2 = (j : Int) := by rw [Int.tmod_eq_emod_of_nonneg (by omega), hj]
      have HWX := Lib.hid (fun u (h : Us wz u s p q 584 V Vp (m + 1)) => lg_write h HVK.out hm5 hj2 (bytesS 512 (f + UInt8.ofNat m)) (bytesS_size _ _))
      have HRX := Lib.hid (fun u (h : Us wz u s p q 584 V Vp (m + 1)) => lg_record h HVK.out hm5 hj2 (fillB (UInt8.ofNat m) 3) (by rw [fillB_size]; decide))
      have HCX := Lib.hid (lg_clear HS1.out HVK.out hm5)
      have HB := Lib.hid (HBK.out m)
      have HF := Lib.hid (HF3.out m)
      have hu := u8_ofNat m
      have hs := u8_sum f m
      rw [hr] at h5
      have hwr : IntKind.i64.wrap r = r := i64w _ (by omega)
      have hwj : IntKind.i64.wrap (j : Int) = (j : Int) := i64w _ (by omega)
      rw [hu] at hs
      obtain ⟨c, hc⟩ : ∃ c : Int, ((f + UInt8.ofNat m).toNat : Int) = c := ⟨_, rfl⟩
      rw [hc] at hs HB
      generalize bytesS 512 (f + UInt8.ofNat m) = z at *
      generalize fillB (UInt8.ofNat m) 3 = z3 at *
      generalize (((UInt8.ofNat m).toNat : Nat) : Int) = cu at *
      have HLT := Lib.hid hlt
      clear hj hj2 hr hc hm5 hm hk4
      by_cases h0 : r = 0
      · subst h0
        go_wp2_with (fail)
        refine (HB.out _).mono ?_; rintro e w8 ⟨rfl, hb⟩
        have S8 := Lib.hid (HS1.out.more hb)
        clear hb
        go_wp2_with (fail)
        refine (HWX.out _ S8.out).mono ?_; rintro e w9 ⟨rfl, hn⟩
        have HAP := Lib.hid (LgAt.next (k := k) hn HLT.out)
        clear hn
        go_wp2_with (fail)
        exact ⟨HAP.out, by simp only [intOf]; omega⟩
      · by_cases h1 : r = 1
        · subst h1
          go_wp2_with (fail)
          refine (HB.out _).mono ?_; rintro e w8 ⟨rfl, hb⟩
          have S8 := Lib.hid (HS1.out.more hb)
          clear hb
          go_wp2_with (fail)
          refine (HWX.out _ S8.out).mono ?_; rintro e w9 ⟨rfl, hn⟩
          have HAP := Lib.hid (LgAt.next (k := k) hn HLT.out)
          clear hn
          go_wp2_with (fail)
          exact ⟨HAP.out, by simp only [intOf]; omega⟩
        · by_cases h2 : r = 2
          · subst h2
            go_wp2_with (fail)
            refine (HB.out _).mono ?_; rintro e w8 ⟨rfl, hb⟩
            have S8 := Lib.hid (HS1.out.more hb)
            clear hb
            go_wp2_with (fail)
            refine (HWX.out _ S8.out).mono ?_; rintro e w9 ⟨rfl, hn⟩
            have HAP := Lib.hid (LgAt.next (k := k) hn HLT.out)
            clear hn
            go_wp2_with (fail)
            exact ⟨HAP.out, by simp only [intOf]; omega⟩
          · by_cases h3 : r = 3
            · subst h3
              go_wp2_with (fail)
              refine (HF.out _).mono ?_; rintro e w8 ⟨rfl, hb⟩
              have S8 := Lib.hid (HS1.out.more hb)
              clear hb
              go_wp2_with (fail)
              refine (HRX.out _ S8.out).mono ?_; rintro e w9 ⟨rfl, hn⟩
              have HAP := Lib.hid (LgAt.next (k := k) hn HLT.out)
              clear hn
              go_wp2_with (fail)
              exact ⟨HAP.out, by simp only [intOf]; omega⟩
            · obtain rfl : r = 4 := by omega
              go_wp2_with (fail)
              refine HCX.out.mono ?_; rintro e w9 ⟨rfl, hn⟩
              have HAP := Lib.hid (LgAt.next (k := k) hn HLT.out)
              clear hn
              go_wp2_with (fail)
              exact ⟨HAP.out, by simp only [intOf]; omega⟩
    · obtain rfl : m = k := by omega
      have hmi : ¬ (m : Int) < (m : Int) := by omega
      have HFL := Lib.hid (fun u (h : Us wz u s p q 584 V Vp (m + 1)) => flush_us h (by omega))
      have HLI := Lib.hid (fun u (h : Us wz u s p q 584 V V (m + 1 + 1)) => lg_list h HVK.out)
      have HSE := Lib.hid (fun u (K1 : Nat → Prop) (s q : Nat) (mm : Nat) (h : Uk wz u K1 s p q 584 V V mm) => lg_seen h HVK.out HTZ.out _ 2 HU.out)
      have HOP := Lib.hid (fun u (K1 : Nat → Prop) (h : Uk wz u K1 s p q 584 V V (m + 1 + 1)) => open_uk h (by omega) HTZ.out)
      have HSM := Lib.hid (fun u (K1 K2 : Nat → Prop) A B ca cb xs ys (h1 : Oux u K1 V (.slice A 2 ca) xs) (h2 : Oux u K2 V (.slice B 2 cb) ys) => lg_same HVK.out h1 h2)
      have HUN := Lib.hid (fun (u : World) A B ca cb (h1 : Uns u A lgL) (h2 : Uns u B lgL) => lg_units (ca := ca) (cb := cb) h1 h2)
      have HLJ := Lib.hid (fun u s q mm (h : Us wz u s p q 584 V V mm) => lg_list h HVK.out)
      clear hm hk4
      go_wp2_with (fail)
      refine (HFL.out _ HS1.out).mono ?_; rintro e w11 ⟨rfl, hu⟩
      have S11 := Lib.hid hu
      clear hu HS1 HFL
      go_wp2_with (fail)
      refine (HLI.out _ S11.out).mono ?_; rintro e w12 ⟨g, rfl, hl, hk⟩
      have K12 := Lib.hid hk; have L12 := Lib.hid hl
      clear hk hl S11 HLI
      go_wp2_with (fail)
      refine (HSE.out _ _ s q _ K12.out).mono ?_; rintro e w13 ⟨KA, A1, c1, xs, rfl, hk, hx, hkp⟩
      have K13 := Lib.hid hk; have X13 := Lib.hid hx
      have G13 := Lib.hid (hkp g rfl).1
      have L13 := Lib.hid (L12.out.keep (hkp g rfl).2)
      clear hk hx hkp K12 L12
      go_wp2_with (fail)
      refine (HOP.out _ _ K13.out).mono ?_; rintro e w14 ⟨s', q', rfl, hk, hkp⟩
      have K14 := Lib.hid hk
      have X14 := Lib.hid (X13.out.keep hkp)
      have L14 := Lib.hid (L13.out.keep (hkp g G13.out))
      clear hk hkp K13 X13 L13 HOP
      go_wp2_with (fail)
      refine (HSE.out _ _ s' q' _ K14.out).mono ?_; rintro e w15 ⟨KB, A2, c2, ys, rfl, hk, hx, hkp⟩
      have K15 := Lib.hid hk; have Y15 := Lib.hid hx
      have X15 := Lib.hid (X14.out.keep fun k hk => (hkp k hk).2)
      have L15 := Lib.hid (L14.out.keep (hkp g G13.out).2)
      have U15 := Lib.hid (HU.out.below K15.out.below)
      clear hk hx hkp K14 X14 L14 HSE G13
      go_wp2_with (fail)
      refine (HSM.out _ _ _ _ _ _ _ _ _ X15.out Y15.out).mono ?_; rintro e w16 ⟨rfl, hb⟩
      have L16 := Lib.hid (L15.out.below hb)
      have U16 := Lib.hid (U15.out.below hb)
      have S16 := Lib.hid (K15.out.us.more hb)
      clear hb L15 U15 K15 X15 Y15 HSM
      go_wp2_with (fail)
      refine (HUN.out _ _ _ _ _ L16.out U16.out).mono ?_; rintro e w17 ⟨rfl, hb⟩
      have U17 := Lib.hid (U16.out.below hb)
      have S17 := Lib.hid (S16.out.more hb)
      clear hb L16 U16 S16
      go_wp2_with (fail)
      refine (HLJ.out _ _ _ _ S17.out).mono ?_; rintro e w18 ⟨g2, rfl, hl, hk⟩
      have S18 := Lib.hid hk.us
      have L18 := Lib.hid hl
      have U18 := Lib.hid (HU.out.below hk.below)
      clear hk hl S17 U17 HLJ
      go_wp2_with (fail)
      refine (HUN.out _ _ _ _ _ L18.out U18.out).mono ?_; rintro e w19 ⟨rfl, hb⟩
      have B19 := Lib.hid (HB0.out.trans ((S18.out.below.trans (hb.mono S18.out.below.size)).mono HB0.out.size))
      clear hb L18 U18 S18 HUN
      go_wp2_with (fail)
      refine (HWK.out _ B19.out).mono ?_; rintro e w20 ⟨rfl, hb⟩
      have B20 := Lib.hid (B19.out.trans (hb.mono B19.out.size))
      clear hb B19
      go_wp2_with (fail)
      go_ret
      exact ⟨rfl, B20.out⟩
end Go.Proofs.YtglfjlbhjaemgaaGreatDoor
