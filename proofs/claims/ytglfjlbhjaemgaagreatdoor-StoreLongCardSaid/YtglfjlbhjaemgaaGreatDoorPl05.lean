/- What is left of the extents between two blocks: the iterator. Regions that draw their order, in a round of a range over a function: the plain walk of every order serves. Extents put one behind the other, merged: lists, rows, marks. -/
import Derived.Test.YtglfjlbhjaemgaaGreatDoorPl04
import Derived.RangeFuncNested
import Derived.RangeFuncBound
import Derived.RangeFuncCalls
import Derived.RangeFuncLeaves
import Derived.RangeFuncBox
import Derived.Shelf.RegionOpen
import Derived.OwnWalkIn
import Derived.TacticsInMore
import Derived.LoopNIn
import Derived.LoopIn
namespace Go.Proofs.YtglfjlbhjaemgaaGreatDoor.Ext
open Go.RowKit Go.Shelf
attribute [local go_sem] Oper.semAt_some
/-- What is left of one extent between two blocks. -/
def cutX (lo hi : Int) (x : Ex) : Option Ex :=
  if (if x.l < lo then lo else x.l) < (if x.l + x.b ≤ hi then x.l + x.b else hi) then some ⟨if x.l < lo then lo else x.l, (if x.l + x.b ≤ hi then x.l + x.b else hi) - (if x.l < lo then lo else x.l), x.a + (if x.l < lo then lo else x.l) - x.l⟩ else none
def leftX (lo hi : Int) (l : List Ex) : List Ex := l.filterMap (cutX lo hi)
theorem cut_fits {lo hi : Int} {x y : Ex} (hx : x.Fits) (h1 : 0 ≤ lo) (h : cutX lo hi x = some y) : y.Fits := by
  unfold cutX at h
  unfold Ex.Fits at *
  obtain ⟨F1, hF1⟩ : ∃ F1, (if x.l < lo then lo else x.l) = F1 := ⟨_, rfl⟩
  obtain ⟨F2, hF2⟩ : ∃ F2, (if x.l + x.b ≤ hi then x.l + x.b else hi) = F2 := ⟨_, rfl⟩
  rw [hF1, hF2] at h
  have hb1 : x.l ≤ F1 ∧ 0 ≤ F1 := by rw [← hF1]; split <;> omega
  have hb2 : F2 ≤ x.l + x.b := by rw [← hF2]; split <;> omega
  by_cases hq : F1 < F2
  · rw [if_pos hq] at h
    injection h with h
    subst h
    simp only
    omega
  · rw [if_neg hq] at h
    cases h
theorem left_next {lo hi : Int} {l : List Ex} {k : Nat} {x : Ex} (h : l[k]? = some x) : leftX lo hi (l.take (k + 1)) = leftX lo hi (l.take k) ++ (cutX lo hi x).toList := by
  unfold leftX
  rw [List.take_add_one, h, Option.toList_some, List.filterMap_append]
  congr 1
theorem left_prefix (lo hi : Int) (l : List Ex) (k : Nat) : leftX lo hi (l.take k) <+: leftX lo hi l := by
  refine ⟨leftX lo hi (l.drop k), ?_⟩
  unfold leftX
  rw [← List.filterMap_append, List.take_append_drop]
theorem build32 (p q r : Int) (v : World) : Sem.run Tryz.prog (Instr.build 158 #[(0, .int .i64 p), (1, .int .i64 q), (2, .int .i64 r)]) v = .ok (.agg #[.int .i64 p, .int .i64 q, .int .i64 r]) v := by kernel_rfl
theorem grown_of_below {w w' : World} (h : Below w.heap.size w w') : w.grownBy w' none := ⟨h.os, h.tape, h.output, h.size, fun k hk _ => h.block k hk⟩
theorem abides {β : Type} {B : Nat} {J : β → World → Prop} (hJ : AbidesFrom B J) {s : β} {A C : World} (hs : J s A) (hb : Below A.heap.size A C) : J s C := hJ s A C none hs (grown_of_below hb) (fun r e => by cases e)
/-- The iterator's three boxes and its list lie below n₀. -/
structure IterAt (n₀ : Nat) (W : World) (b0 b1 b2 : Nat) (A : Option Addr) (c : Nat) (l : List Ex) (lo hi : Int) : Prop where
  c0 : W.cell? ⟨b0, 0, none⟩ = some (.slice A l.length c)
  c1 : W.cell? ⟨b1, 0, none⟩ = some (.int .i64 lo)
  c2 : W.cell? ⟨b2, 0, none⟩ = some (.int .i64 hi)
  k0 : b0 < n₀
  k1 : b1 < n₀
  k2 : b2 < n₀
  ext : Exts W A l
  kA : 0 < l.length → ∀ a, A = some a → a.block < n₀
theorem IterAt.below {n₀ : Nat} {W V : World} {b0 b1 b2 : Nat} {A : Option Addr} {c : Nat} {l : List Ex} {lo hi : Int} (h : IterAt n₀ W b0 b1 b2 A c l lo hi) (hb : Below n₀ W V) : IterAt n₀ V b0 b1 b2 A c l lo hi :=
  ⟨(hb.cell (p := ⟨b0, 0, none⟩) h.k0).trans h.c0, (hb.cell (p := ⟨b1, 0, none⟩) h.k1).trans h.c1, (hb.cell (p := ⟨b2, 0, none⟩) h.k2).trans h.c2, h.k0, h.k1, h.k2, h.ext.kept (fun hn a ha => hb.block _ (h.kA hn a ha)), h.kA⟩
/-- Of the iterator's loop: what the first k extents leave has come. -/
def ItAt (n₀ : Nat) (W : World) (l : List Ex) (lo hi : Int) (J : List Ex → World → Prop) (i : Value) (wr : World) : Prop :=
  ∃ k : Nat, i = .int .i64 k ∧ k ≤ l.length ∧ J (leftX lo hi (l.take k)) wr ∧ Below n₀ W wr
set_option maxRecDepth 100000 in
set_option maxHeartbeats 4000000 in
theorem left1_in (n : Nat) (hn : 1 ≤ n) (lp n₀ b0 b1 b2 : Nat) (A : Option Addr) (c : Nat) (l : List Ex) (lo hi : Int) (J Jx : List Ex → World → Prop) (B : Nat) (hJ : AbidesFrom B J) (hJx : AbidesFrom B Jx)
    (hlo : 0 ≤ lo ∧ lo ≤ 4096) (hhi : 0 ≤ hi ∧ hi ≤ 4096) (hfit : ∀ x ∈ l, x.Fits) (hlen : l.length ≤ maxLen)
    (hY : ∀ pre x W, J pre W → pre.length < (leftX lo hi l).length → x.Fits → YieldAt Fence.wide (n - 1) Tryz.prog lp #[exV x] W fun e W' =>
      (e = .returned (.bool true) ∧ J (pre ++ [x]) W' ∧ Below n₀ W W') ∨ (e = .returned (.bool false) ∧ Jx (pre ++ [x]) W'))
    (W : World) (hn0 : n₀ ≤ W.heap.size) (hI : IterAt n₀ W b0 b1 b2 A c l lo hi) (h0 : J [] W) :
    CallsIn Fence.wide n Tryz.prog 204 #[.func (.yield lp) #[] #[], .pointer (some ⟨b0, 0, none⟩), .pointer (some ⟨b1, 0, none⟩), .pointer (some ⟨b2, 0, none⟩)] W fun e W' => (∃ v, e = .returned v) ∧
      ((∃ ys, ys = leftX lo hi l ∧ J ys W') ∨ (∃ pre, pre <+: leftX lo hi l ∧ Jx pre W')) := by
  refine callsIn_wide.2 ?_
  have HY := Lib.hid hY; have HJ := Lib.hid hJ; have HJx := Lib.hid hJx; have HI := Lib.hid hI; have H0 := Lib.hid h0; have HFIT := Lib.hid hfit
  have c0 := hI.c0
  clear hY hJ hJx hI h0 hfit
  unfold maxLen at hlen
  go_enter Tryz.func204, Tryz.ntmps204
  go_wp2_with (fail)
  go_loopw [11] (fun i wr => ItAt n₀ W l lo hi J i wr) (fun i _ => l.length - (intOf i).toNat)
  case atStart => exact ⟨0, rfl, Nat.zero_le _, H0.out, Below.refl _ _⟩
  case round =>
    obtain ⟨k, rfl, hk, hJk, hbl⟩ := hrel
    have HB0 := Lib.hid hbl; have HJ0 := Lib.hid hJk
    have HIr := Lib.hid (HI.out.below hbl)
    clear hbl hJk c0
    by_cases hlt : k < l.length
    · have hki : (k : Int) < l.length := by omega
      obtain ⟨b, o, x, rfl, hat, wf, c0, c1, c2⟩ := HIr.out.ext.at_ hlt
      have HKA := Lib.hid (HIr.out.kA (by omega) _ rfl)
      have HN := Lib.hid (left_next (lo := lo) (hi := hi) hat)
      have hfx := HFIT.out x (List.mem_of_getElem? hat)
      have HAT := Lib.hid hat; clear hat wf
      obtain ⟨s1, s2, s3, s4⟩ := fits_sums hfx
      have HEX := Lib.hid (fun v => end_any x v s1 s2)
      have HFX := Lib.hid hfx; clear hfx s1 s2 s3 s4
      have hg1 := HIr.out.c1
      have hg2 := HIr.out.c2
      go_upto_region 3 with (fail)
      obtain ⟨hbx, hbb⟩ := round_box wr x _ rfl
      generalize hw0 : wr.alloc (.cells #[.int .i64 x.l, .int .i64 x.b, .int .i64 x.a] 158) = w0 at *
      have HBB := Lib.hid hbb
      have HX := Lib.hid hbx
      have HI0 := Lib.hid (HIr.out.below (hbb.mono (Nat.le_trans hn0 (Nat.le_trans (HI.out.below HB0.out |>.k0 |> fun _ => HB0.out.size) (Nat.le_refl _)))))
      clear hw0 hbx hbb c0 c1 c2 hg1 hg2
      obtain ⟨C, hC0, hCl, hCi, hCm⟩ := class_of w0 (fun v => (v.cell? ⟨wr.heap.size, 0, none⟩ = some (.int .i64 x.l) ∧ v.cell? ⟨wr.heap.size, 1, none⟩ = some (.int .i64 x.b) ∧ v.cell? ⟨wr.heap.size, 2, none⟩ = some (.int .i64 x.a)) ∧ v.cell? ⟨b1, 0, none⟩ = some (.int .i64 lo) ∧ v.cell? ⟨b2, 0, none⟩ = some (.int .i64 hi)) (fun v hb => ⟨blk_cells3 HX.out hb, (HI0.out.below (hb.mono (by have := HB0.out.size; have := HBB.out.size; omega))).c1, (HI0.out.below (hb.mono (by have := HB0.out.size; have := HBB.out.size; omega))).c2⟩)
      have HC0 := Lib.hid hC0; have HL := Lib.hid hCl; have HCi := Lib.hid hCi; have HCm := Lib.hid hCm
      clear hC0 hCl hCi hCm
      obtain ⟨F1, hF1⟩ : ∃ F1, (if x.l < lo then lo else x.l) = F1 := ⟨_, rfl⟩
      obtain ⟨F2, hF2⟩ : ∃ F2, (if x.l + x.b ≤ hi then x.l + x.b else hi) = F2 := ⟨_, rfl⟩
      have HF1 := Lib.hid hF1; have HF2 := Lib.hid hF2
      clear hF1 hF2
      have HE := HEX
      unfold exV at HE
      refine wp_region_class C (by kernel_rfl) (by kernel_rfl) HC0.out ?_
      go_big_quiet_want
      go_big_quiet_op
      first | go_big_quiet_on | (refine ⟨_, fun _ _ => rfl, ?_⟩; go_big_quiet_on)
      go_big_quiet_want
      refine quiet_run (v := .int .i64 x.l) (fun v hv => by obtain ⟨⟨a0, a1, a2⟩, g1, g2⟩ := HL.out v hv; go_simp) ?_
      simp only [Act.put, List.setIfInBounds_toArray, List.set_cons_zero, List.set_cons_succ]
      go_big_quiet_on
      go_big_quiet_want
      refine quiet_run (v := .int .i64 lo) (fun v hv => by obtain ⟨⟨a0, a1, a2⟩, g1, g2⟩ := HL.out v hv; go_simp) ?_
      simp only [Act.put, List.setIfInBounds_toArray, List.set_cons_zero, List.set_cons_succ]
      go_big_quiet_on
      go_big_quiet_want
      refine quiet_run (v := .int .i64 F1) (fun v hv => by rw [← HF1.out]; by_cases hq : x.l < lo <;> go_simp) ?_
      simp only [Act.put, List.setIfInBounds_toArray, List.set_cons_zero, List.set_cons_succ]
      go_big_quiet_on
      go_big_quiet_want
      refine quiet_run (v := .agg #[.int .i64 x.l, .int .i64 x.b, .int .i64 x.a]) (fun v hv => by obtain ⟨⟨a0, a1, a2⟩, g1, g2⟩ := HL.out v hv; go_simp) ?_
      simp only [Act.put, List.setIfInBounds_toArray, List.set_cons_zero, List.set_cons_succ]
      go_big_quiet_on
      go_big_quiet_want
      refine quiet_call (f := 192) (args := #[.agg #[.int .i64 x.l, .int .i64 x.b, .int .i64 x.a]]) (fun v _ => by go_simp) (fun v hv => (HE.out v).mono (fun e w' h => ⟨h.1, HCm.out v w' hv h.2⟩)) ?_
      simp only [Act.put, List.setIfInBounds_toArray, List.set_cons_zero, List.set_cons_succ]
      go_big_quiet_on
      go_big_quiet_want
      refine quiet_run (v := .int .i64 hi) (fun v hv => by obtain ⟨⟨a0, a1, a2⟩, g1, g2⟩ := HL.out v hv; go_simp) ?_
      simp only [Act.put, List.setIfInBounds_toArray, List.set_cons_zero, List.set_cons_succ]
      go_big_quiet_on
      go_big_quiet_want
      refine quiet_run (v := .int .i64 F2) (fun v hv => by rw [← HF2.out]; by_cases hq : x.l + x.b ≤ hi <;> (go_simp <;> omega)) ?_
      simp only [Act.put, List.setIfInBounds_toArray, List.set_cons_zero, List.set_cons_succ]
      go_big_quiet_on
      go_big_quiet_want
      go_big_quiet_op
      first | go_big_quiet_on | (refine ⟨_, fun _ _ => rfl, ?_⟩; go_big_quiet_on)
      go_big_quiet_want
      go_big_quiet_op
      first | go_big_quiet_on | (refine ⟨_, fun _ _ => rfl, ?_⟩; go_big_quiet_on)
      refine wpQuiet_nil ?_
      intro w5 hC5
      have HBW := Lib.hid (HBB.out.trans ((HCi.out _ hC5).mono HBB.out.size))
      have HJ5 := Lib.hid (abides HJ.out HJ0.out HBW.out)
      have HB5 := Lib.hid (HB0.out.trans (HBW.out.mono (Nat.le_trans hn0 HB0.out.size)))
      obtain ⟨⟨a0, a1, a2⟩, _, _⟩ := HL.out _ hC5
      clear hC5
      have hf := HFX.out
      unfold Ex.Fits at hf
      have hb1 : F1 = x.l ∨ F1 = lo := by rw [← HF1.out]; by_cases h : x.l < lo <;> simp [h]
      have hb2 : F2 = x.l + x.b ∨ F2 = hi := by rw [← HF2.out]; by_cases h : x.l + x.b ≤ hi <;> simp [h]
      have hw1 : IntKind.i64.wrap (F2 - F1) = F2 - F1 := i64w _ (by omega)
      have hw2 : IntKind.i64.wrap (x.a + F1) = x.a + F1 := i64w _ (by omega)
      have hw3 : IntKind.i64.wrap (x.a + F1 - x.l) = x.a + F1 - x.l := i64w _ (by omega)
      clear hb1 hb2 hf
      by_cases hq : F1 < F2
      · have HCUT := Lib.hid (show cutX lo hi x = some ⟨F1, F2 - F1, x.a + F1 - x.l⟩ by unfold cutX; rw [HF1.out, HF2.out, if_pos hq])
        have HNX := Lib.hid (show leftX lo hi (l.take (k + 1)) = leftX lo hi (l.take k) ++ [⟨F1, F2 - F1, x.a + F1 - x.l⟩] by rw [HN.out, HCUT.out]; rfl)
        obtain ⟨fn, tmps, assign, body, hy, hR⟩ := HY.out (leftX lo hi (l.take k)) ⟨F1, F2 - F1, x.a + F1 - x.l⟩ w5 HJ5.out (by
          have h1 := (left_prefix lo hi l (k + 1)).length_le
          rw [HNX.out, List.length_append] at h1
          simp only [List.length_cons, List.length_nil] at h1
          omega) (cut_fits HFX.out hlo.1 HCUT.out)
        have HR := Lib.hid hR; clear hR
        unfold exV at hy
        dsimp only at hy
        go_upto_region 4 with (fail)
        refine (wpIn_wide (n := n)).1 ?_
        have hbld := build32 F1 (F2 - F1) (x.a + F1 - x.l) w5
        gi_wp2
        refine HR.out.mono ?_
        rintro e W3 (⟨rfl, hJ3, hk3⟩ | ⟨rfl, hJx3⟩)
        · have HJ3 := Lib.hid (show J (leftX lo hi (l.take (k + 1))) W3 by rw [HNX.out]; exact hJ3)
          have HK3 := Lib.hid (HB5.out.trans hk3)
          clear hJ3 hk3
          have hnt : Sem.run Tryz.prog (Op.unary UnOp.not (.bool true)) W3 = .ok (.bool false) W3 := rfl
          gi_wp2
          go_wp2_with (fail)
          go_roundw
          case rel => exact ⟨k + 1, by go_num, by omega, HJ3.out, HK3.out⟩
          case measure => simp [intOf]; omega
        · have HJ3 := Lib.hid hJx3
          clear hJx3
          have hnt : Sem.run Tryz.prog (Op.unary UnOp.not (.bool false)) W3 = .ok (.bool true) W3 := rfl
          gi_wp2
          go_wp2_with (fail)
          refine bodyPost_ret (results_none rfl _ _ _) rfl ?_
          exact ⟨⟨_, rfl⟩, .inr ⟨_, by rw [← HNX.out]; exact left_prefix _ _ _ _, HJ3.out⟩⟩
      · have HNX := Lib.hid (show leftX lo hi (l.take (k + 1)) = leftX lo hi (l.take k) by rw [HN.out]; unfold cutX; rw [HF1.out, HF2.out, if_neg hq]; exact List.append_nil _)
        have HJ3 := Lib.hid (show J (leftX lo hi (l.take (k + 1))) w5 by rw [HNX.out]; exact HJ5.out)
        go_wp2_with (fail)
        go_roundw
        case rel => exact ⟨k + 1, by go_num, by omega, HJ3.out, HB5.out⟩
        case measure => simp [intOf]; omega
    · obtain rfl : k = l.length := by omega
      have HJE := Lib.hid (show J (leftX lo hi l) wr by have := HJ0.out; rwa [List.take_length] at this)
      go_wp2
      go_end0
      exact ⟨⟨_, rfl⟩, .inl ⟨_, rfl, HJE.out⟩⟩
end Go.Proofs.YtglfjlbhjaemgaaGreatDoor.Ext
namespace Go.Proofs.YtglfjlbhjaemgaaGreatDoor.Ext
open Go.RowKit
theorem rows_lift {P : Program} {n lp : Nat} {row : String} {args : Array Value} {w : World} {R : Value → World → Prop} (h : Rows P row args w R) : RowsIn (Fence.wide.inRound lp) n P row args w R :=
  fun c cs _ => let ⟨v, w', r, s⟩ := h c cs; ⟨v, w', r, stepsIn_wide.2 s⟩
theorem calls_lift {P : Program} {n lp : Nat} {f : FuncId} {args : Array Value} {w : World} {R : Ending → World → Prop} (h : Calls P f args w R) : CallsIn (Fence.wide.inRound lp) n P f args w R :=
  CallsIn.inRound lp (callsIn_wide.2 h)
theorem op_lift {P : Program} {n lp : Nat} {o : Oper} {a : Act} {w : World} {K K' : Act → World → Prop} {Q : Exit → Act → World → Prop} (hnd : ∀ c, o.op ≠ .defer c) (hK : ∀ a w, K a w → K' a w) (h : o.wp P a w K Q) :
    o.wpIn (Fence.wide.inRound lp) n P a w K' Q := by
  unfold Oper.wp at h
  unfold Oper.wpIn
  refine ⟨fun _ _ => trivial, ?_⟩
  rw [Oper.semAt_eq _ _ _ hnd]
  generalize (execOp a.eval o).run P w = r at *
  cases r with
  | ok x w' =>
    cases x <;> simp only [Oper.upon] at h <;> simp only [Oper.uponIn]
    case value u => exact hK _ _ h
    case skip => exact hK _ _ h
    case defer d => exact hK _ _ h
    case enter f args =>
      refine ⟨fun h => (by cases h), calls_lift (h.mono ?_)⟩
      intro e w2 he
      cases e with
      | returned v => exact hK _ _ he
      | panicked c => exact he
      | outgrown => exact he
    case row r args => exact ⟨fun h => (by cases h), rows_lift (h.mono fun v w2 hv => hK _ _ hv)⟩
  | halt x w' =>
    cases x <;> simp only [Oper.upon] at h <;> simp only [Oper.uponIn]
    exact h
theorem any_lift {P : Program} {n lp : Nat} {md : Region.Mode} {ops : Array Oper} {Q : Exit → Act → World → Prop} (hnd : ∀ o ∈ ops, ∀ c, o.op ≠ .defer c) (hQ : ¬ LetsOut Q) :
    ∀ (fuel : Nat) (listed : Array Bool) (a : Act) (w : World), wpAny P md ops Q fuel listed a w → wpAnyIn (Fence.wide.inRound lp) n P md ops Q fuel listed a w
  | 0, _, _, _, h => h
  | fuel + 1, listed, a, w, h => ⟨h.1, fun i hi => by
      have h2 := h.2 i hi
      unfold wpOp at h2
      unfold wpOpIn
      cases ho : ops[i]? with
      | none => rw [ho] at h2; exact any_lift hnd hQ fuel _ _ _ h2
      | some o =>
        rw [ho] at h2
        simp only at h2 ⊢
        by_cases hw : Region.wanted o (yielded ops a.tmps) = true
        · rw [if_pos hw] at h2
          rw [if_pos hw]
          rcases h2 with h3 | h3
          · exact op_lift (hnd o (Array.mem_of_getElem? ho)) (fun a w h => any_lift hnd hQ fuel _ _ _ h) h3
          · exact absurd h3.2 hQ
        · rw [if_neg hw] at h2
          rw [if_neg hw]
          exact ⟨fun _ _ => trivial, any_lift hnd hQ fuel _ _ _ h2⟩⟩
def noDefer (ops : List Oper) : Bool := ops.all fun o => match o.op with | .defer _ => false | _ => true
theorem noDefer_ok {l : List Oper} (h : noDefer l = true) : ∀ o ∈ l.toArray, ∀ c, o.op ≠ .defer c := by
  intro o ho c e
  have := List.all_eq_true.1 h o (by simpa using ho)
  rw [e] at this
  cases this
/-- In a round, by the class. -/
theorem round_region_class {P : Program} {id n lp : Nat} {Q : Exit → Act → World → Prop} {a : Act} {w : World} {l : List Oper} (C : World → Prop) (hd : noDefer l = true) (hQ : ¬ LetsOut Q) (hm : P.follows .mixedOrders = true) (hB : Region.lexB .any l.toArray = true) (hC : C w.drew)
    (h : wpQuiet P l.toArray C (fun a' => ∀ w', C w' → Q .normal a' w') l a) : (Code.region id l.toArray true).wpIn (Fence.wide.inRound lp) n P Q a w := by
  simp only [Region.lexB, Bool.and_eq_true] at hB
  refine wpIn_region_any hm (any_lift (noDefer_ok hd) hQ _ _ _ _ (wpAny_of_quiet (Q := fun a' => ∀ w', C w' → Q .normal a' w') (fun _ w' hw' h => h w' hw') _ _ _ _ hC ?_))
  have := wpAnyQ_lex (C := C) (md := .any) hB.1 l.toArray.toList 0 (Array.replicate l.toArray.size false) a (by simp) (by simpa using hB.2) (by simpa using h)
  simpa using this
/-- In a round: reads, then a store that is last in every order. -/
theorem round_region_tail {P : Program} {id m lp : Nat} {Q : Exit → Act → World → Prop} {a : Act} {w : World} {l : List Oper} (n : Nat) (hd : noDefer l = true) (hQ : ¬ LetsOut Q) (hm : P.follows .mixedOrders = true) (hB : Region.lexTailB .any l.toArray n = true)
    (h : wpStill P l.toArray w.drew (fun a' => wpList P l.toArray Q (l.drop n) a' w.drew) (l.take n) a) : (Code.region id l.toArray true).wpIn (Fence.wide.inRound lp) m P Q a w := by
  simp only [Region.lexTailB, Bool.and_eq_true, decide_eq_true_eq] at hB
  obtain ⟨⟨⟨⟨hsel, hn⟩, hs⟩, hc⟩, hlex⟩ := hB
  have hn' : n < l.length := by simpa using hn
  have htl : (l.take n).length = n := by simp; omega
  have hdl : (l.drop n).length = l.toArray.size - n := by simp
  have inv0 : HeadInv .any l.toArray n (Array.replicate l.toArray.size false) :=
    ⟨by simp, fun j oj _ hl => (by rw [getD_replicate_false] at hl; cases hl), fun t _ ht => getD_in (by simpa using ht) (getD_replicate_false _ _)⟩
  have H := wpAnyL_lex (md := .any) (g := l.toArray.size - n) hsel hs hc hn (l.take n) 0 _ a (fun j hj => by
    have hj' : j < n := by rw [htl] at hj; exact hj
    simp [hj']) (by simpa using htl) inv0 (by rw [htl]; exact hlex) h
  refine wpIn_region_any hm (any_lift (noDefer_ok hd) hQ _ _ _ _ ?_)
  have := wpAny_of_head (Q' := Q) (g := l.toArray.size - n) (fun listed a' hL => by
    have := wpAny_of_seq (md := .any) (Q' := Q) (l.drop n) n listed a' w.drew (fun j => by simp [List.getElem?_drop]) (by rw [hdl]; exact hL.1) hL.2
    rwa [hdl] at this) _ _ _ H
  rw [htl, show n + (l.toArray.size - n) = l.toArray.size by omega] at this
  exact this
end Go.Proofs.YtglfjlbhjaemgaaGreatDoor.Ext
namespace Go.Proofs.YtglfjlbhjaemgaaGreatDoor.Ext
open Go.RowKit Go.Shelf
def exCells (l : List Ex) : List Value := l.flatMap fun x => [.int .i64 x.l, .int .i64 x.b, .int .i64 x.a]
theorem exCells_length (l : List Ex) : (exCells l).length = l.length * 3 := by
  unfold exCells
  induction l with
  | nil => rfl
  | cons h l ih => simp only [List.flatMap_cons, List.length_append, ih, List.length_cons, List.length_nil]; omega
theorem exCells_at {l : List Ex} {k : Nat} {h : Ex} (hk : l[k]? = some h) : (exCells l)[k * 3]? = some (.int .i64 h.l) ∧ (exCells l)[k * 3 + 1]? = some (.int .i64 h.b) ∧ (exCells l)[k * 3 + 2]? = some (.int .i64 h.a) := by
  induction l generalizing k with
  | nil => cases hk
  | cons x l ih =>
    show ([.int .i64 x.l, .int .i64 x.b, .int .i64 x.a] ++ exCells l)[k * 3]? = _ ∧ ([.int .i64 x.l, .int .i64 x.b, .int .i64 x.a] ++ exCells l)[k * 3 + 1]? = _ ∧ ([.int .i64 x.l, .int .i64 x.b, .int .i64 x.a] ++ exCells l)[k * 3 + 2]? = _
    cases k with
    | zero => simp at hk; subst hk; exact ⟨rfl, rfl, rfl⟩
    | succ k =>
      have := ih (k := k) (by simpa using hk)
      rw [List.getElem?_append_right (by simp; omega), List.getElem?_append_right (by simp; omega), List.getElem?_append_right (by simp; omega)]
      simp only [List.length_cons, List.length_nil]
      rw [show (k + 1) * 3 - (0 + 1 + 1 + 1) = k * 3 by omega, show (k + 1) * 3 + 1 - (0 + 1 + 1 + 1) = k * 3 + 1 by omega, show (k + 1) * 3 + 2 - (0 + 1 + 1 + 1) = k * 3 + 2 by omega]
      exact this
theorem exCells_snoc (l : List Ex) (x : Ex) : exCells (l ++ [x]) = exCells l ++ [.int .i64 x.l, .int .i64 x.b, .int .i64 x.a] := by simp [exCells]
theorem exCells_last (l : List Ex) (y : Ex) (u : Int) : (exCells (l ++ [y])).set (l.length * 3 + 1) (.int .i64 u) = exCells (l ++ [⟨y.l, u, y.a⟩]) := by
  rw [exCells_snoc, exCells_snoc, List.set_append_right _ _ (by rw [exCells_length]; omega), exCells_length, show l.length * 3 + 1 - l.length * 3 = 1 by omega]
  rfl
theorem own_form {w : World} {base : Nat} {e : TypeId} {size n : Nat} {v : Value} {xs : List Value} (h : w.ownsRow base e size v n xs) : ∃ A c, v = .slice A n c := by
  rcases h.2 with ⟨rfl, rfl⟩ | ⟨g, cap, cur, rfl, _⟩
  · exact ⟨_, _, rfl⟩
  · exact ⟨_, _, rfl⟩
theorem own_some {w : World} {base : Nat} {e : TypeId} {size n c : Nat} {A : Option Addr} {xs : List Value} (h : w.ownsRow base e size (.slice A n c) n xs) (hn : 0 < n) :
    ∃ g cur, A = some ⟨g, 0, none⟩ ∧ base ≤ g ∧ Blk w g e cur ∧ cur.toList.take (n * size) = xs := by
  rcases h.2 with ⟨_, h0⟩ | ⟨g, cap, cur, hv, hb, hg, _, _, _, ht⟩
  · omega
  · injection hv with hA _ _
    exact ⟨g, cur, hA, hb, hg, ht⟩
theorem own_put {w : World} {base : Nat} {e : TypeId} {size n c g : Nat} {xs : List Value} (h : w.ownsRow base e size (.slice (some ⟨g, 0, none⟩) n c) n xs) (i : Nat) (u : Value) :
    (w.setCell ⟨g, i, none⟩ u).ownsRow base e size (.slice (some ⟨g, 0, none⟩) n c) n (xs.set i u) := by
  refine ⟨by rw [List.length_set]; exact h.1, ?_⟩
  rcases h.2 with ⟨h0, _⟩ | ⟨g', cap, cur, hv, hb, hg, h1, h2, h3, ht⟩
  · cases h0
  · injection hv with hA _ hc
    injection hA with hA; injection hA with hA
    subst hA; subst hc
    have hblk : Blk w g e cur := hg
    refine .inr ⟨g, c, cur.setIfInBounds i u, rfl, hb, hblk.put i u, h1, h2, by rw [Array.size_setIfInBounds]; exact h3, ?_⟩
    rw [Array.toList_setIfInBounds, List.take_set, ht]
theorem Ex.Wf.of_small {x : Ex} {k : Int} (h : 0 ≤ x.l ∧ x.l ≤ 4096 ∧ 0 ≤ x.a ∧ x.a ≤ 8192 ∧ 0 ≤ x.b ∧ x.b ≤ k) (hk : k ≤ 9223372036854775807) : x.Wf := ⟨by omega, by omega, by omega, by omega, by omega, by omega⟩
/-- A slice of extents of its own. -/
theorem exts_of_own {w : World} {base n : Nat} {v : Value} {l : List Ex} (h : w.ownsRow base 158 3 v n (exCells l)) (hwf : ∀ x ∈ l, x.Wf) : ∃ A c, v = .slice A l.length c ∧ Exts w A l ∧ (0 < l.length → ∀ a, A = some a → base ≤ a.block) := by
  have hl : l.length = n := by have := h.1; rw [exCells_length] at this; omega
  obtain ⟨A, c, rfl⟩ := own_form h
  subst hl
  refine ⟨A, c, rfl, fun hn => ?_, fun hn a ha => ?_⟩
  · obtain ⟨g, cur, rfl, _, hg, ht⟩ := own_some h hn
    refine ⟨g, 0, rfl, fun j x hj => ?_⟩
    have hlt := (List.getElem?_eq_some_iff.1 hj).1
    obtain ⟨h1, h2, h3⟩ := exCells_at hj
    rw [← ht, List.getElem?_take, if_pos (by omega)] at h1 h2 h3
    rw [Nat.zero_add, hg.cell, hg.cell, hg.cell]
    exact ⟨hwf x (List.mem_of_getElem? hj), by simpa using h1, by simpa using h2, by simpa using h3⟩
  · obtain ⟨g, cur, rfl, hb, _, _⟩ := own_some h hn
    injection ha with ha
    subst ha
    exact hb
/-- One extent more behind a list. -/
def pushX (r : List Ex) (x : Ex) : List Ex :=
  match r.getLast? with
  | none => [x]
  | some y => if goesB y x then r.dropLast ++ [⟨y.l, y.b + x.b, y.a⟩] else r ++ [x]
def mrgX (r : List Ex) (q : List Ex) : List Ex := q.foldl pushX r
theorem mrg_snoc (r q : List Ex) (x : Ex) : mrgX r (q ++ [x]) = pushX (mrgX r q) x := by unfold mrgX; rw [List.foldl_append]; rfl
theorem mrg_app (r q p : List Ex) : mrgX r (q ++ p) = mrgX (mrgX r q) p := by unfold mrgX; rw [List.foldl_append]
theorem push_nil (x : Ex) : pushX [] x = [x] := rfl
theorem push_last (r : List Ex) (y x : Ex) : pushX (r ++ [y]) x = if goesB y x then r ++ [⟨y.l, y.b + x.b, y.a⟩] else r ++ [y] ++ [x] := by
  unfold pushX
  rw [List.getLast?_append]
  simp
/-- Numbers that no sum of this many can carry away. -/
def Small (k : Nat) (y : Ex) : Prop := 0 ≤ y.l ∧ y.l ≤ 4096 ∧ 0 ≤ y.a ∧ y.a ≤ 8192 ∧ 0 ≤ y.b ∧ y.b ≤ 4096 * (k : Int)
theorem split_last {r : List Ex} (h : r ≠ []) : ∃ r' y, r = r' ++ [y] := ⟨r.dropLast, r.getLast h, (List.dropLast_concat_getLast h).symm⟩
theorem push_small {k : Nat} {r : List Ex} {x : Ex} (hr : ∀ y ∈ r, Small k y) (hx : x.Fits) : (∀ y ∈ pushX r x, Small (k + 1) y) ∧ (pushX r x).length ≤ r.length + 1 := by
  have hup : ∀ y, Small k y → Small (k + 1) y := fun y h => by unfold Small at *; omega
  have hxs : Small (k + 1) x := by unfold Ex.Fits at hx; unfold Small; omega
  by_cases h : r = []
  · subst h
    rw [push_nil]
    exact ⟨fun y hy => by simp at hy; subst hy; exact hxs, by simp⟩
  · obtain ⟨r', y, rfl⟩ := split_last h
    rw [push_last]
    have hy := hr y (by simp)
    by_cases hg : goesB y x = true
    · rw [if_pos hg]
      refine ⟨fun z hz => ?_, by simp⟩
      simp only [List.mem_append, List.mem_singleton] at hz
      rcases hz with hz | rfl
      · exact hup z (hr z (by simp [hz]))
      · unfold Ex.Fits at hx; unfold Small at *; simp only; omega
    · rw [if_neg hg]
      refine ⟨fun z hz => ?_, by simp⟩
      simp only [List.mem_append, List.mem_singleton] at hz
      rcases hz with (hz | rfl) | rfl
      · exact hup z (hr z (by simp [hz]))
      · exact hup _ hy
      · exact hxs
theorem mrg_small : ∀ (q : List Ex) (k : Nat) (r : List Ex), (∀ y ∈ r, Small k y) → (∀ x ∈ q, x.Fits) → (∀ y ∈ mrgX r q, Small (k + q.length) y) ∧ (mrgX r q).length ≤ r.length + q.length
  | [], k, r, hr, _ => ⟨hr, Nat.le_refl _⟩
  | x :: q, k, r, hr, hq => by
    obtain ⟨h1, h2⟩ := push_small hr (hq x (by simp))
    obtain ⟨h3, h4⟩ := mrg_small q (k + 1) (pushX r x) h1 (fun z hz => hq z (by simp [hz]))
    refine ⟨fun y hy => ?_, ?_⟩
    · have := h3 y hy
      rwa [show k + (x :: q).length = k + 1 + q.length by simp; omega]
    · show (mrgX (pushX r x) q).length ≤ _
      simp only [List.length_cons]
      omega
/-- The blocks for the rounds' deferred calls of the loops that are over. -/
def mark (D : Nat) : Deferred := { target := .collected D, args := #[] }
def Marks (n₀ : Nat) (Ds : List Nat) (W : World) : Prop := Ds.Nodup ∧ ∀ D ∈ Ds, n₀ ≤ D ∧ W.heap[D]? = some (.deferred (some []))
theorem Marks.keeps {n₀ : Nat} {Ds : List Nat} {W V : World} (h : Marks n₀ Ds W) (hk : KeepsOthers W V) : Marks n₀ Ds V := ⟨h.1, fun D hD => ⟨(h.2 D hD).1, hk.same D _ (h.2 D hD).2 rfl⟩⟩
theorem Marks.lt {n₀ : Nat} {Ds : List Nat} {W : World} (h : Marks n₀ Ds W) {D : Nat} (hD : D ∈ Ds) : D < W.heap.size := (Array.getElem?_eq_some_iff.1 (h.2 D hD).2).1
theorem Marks.own {β : Type} {n₀ B : Nat} {Ds : List Nat} (hB : ∀ D ∈ Ds, D < B) : OwnFrom B (fun (_ : β) W => Marks n₀ Ds W) := by
  intro _ W W' row hs hg hr
  refine ⟨hs.1, fun D hD => ⟨(hs.2 D hD).1, (hg.block D (hs.lt hD) ?_).trans (hs.2 D hD).2⟩⟩
  intro e
  have := (hr D e.symm).1
  have := hB D hD
  omega
theorem Marks.put {n₀ : Nat} {D : Nat} {Ds : List Nat} {W : World} (h : Marks n₀ (D :: Ds) W) (o : Obj) : Marks n₀ Ds (W.putObj D o) := by
  obtain ⟨hnd, hm⟩ := h
  rw [List.nodup_cons] at hnd
  refine ⟨hnd.2, fun E hE => ⟨(hm E (by simp [hE])).1, ?_⟩⟩
  have hne : E ≠ D := fun e => hnd.1 (by rw [← e]; exact hE)
  rw [World.putObj_heap_other hne]
  exact (hm E (by simp [hE])).2
theorem leaves_marks {F : Fence} {n : Nat} {P : Program} {fn : Func} {tmps : Array Value} {R : Ending → World → Prop} {n₀ : Nat} (X : World → Prop) (hX : ∀ W D o, X W → n₀ ≤ D → W.heap[D]? = some (.deferred (some [])) → X (W.putObj D o)) :
    ∀ (Ds : List Nat) (W : World), Marks n₀ Ds W → X W → (∀ V, X V → LeavesInM F n P fn tmps R [] .returning V) → LeavesInM F n P fn tmps R (Ds.map mark) .returning W
  | [], W, _, hx, h => h W hx
  | D :: Ds, W, hm, hx, h => ⟨by simp, .inl ⟨D, _, rfl, run_takeDeferred (hm.2 D (by simp)).2, leaves_marks X hX Ds _ (hm.put _) (hX W D _ hx (hm.2 D (by simp)).1 (hm.2 D (by simp)).2) h⟩⟩
end Go.Proofs.YtglfjlbhjaemgaaGreatDoor.Ext
