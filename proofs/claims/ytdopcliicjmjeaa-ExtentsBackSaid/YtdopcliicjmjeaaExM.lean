/- What is left of the extents between two blocks: the iterator. -/
import Derived.Test.YtdopcliicjmjeaaExB
import Derived.RangeFuncNested
import Derived.RangeFuncBound
import Derived.RangeFuncCalls
import Derived.RangeFuncLeaves
import Derived.RangeFuncBox
import Derived.Shelf.RegionOpen
import Derived.OwnWalkIn
import Derived.TacticsInMore
import Derived.LoopNIn
import Derived.LoopIn
namespace Go.Proofs.Ytdopcliicjmjeaa
open Go.RowKit Go.Shelf
attribute [local go_sem] Oper.semAt_some
/-- What is left of one extent between two blocks. -/
def cutX (lo hi : Int) (x : Ex) : Option Ex :=
  if (if x.l < lo then lo else x.l) < (if x.l + x.b ≤ hi then x.l + x.b else hi) then some ⟨if x.l < lo then lo else x.l, (if x.l + x.b ≤ hi then x.l + x.b else hi) - (if x.l < lo then lo else x.l), x.a + (if x.l < lo then lo else x.l) - x.l⟩ else none
def leftX (lo hi : Int) (l : List Ex) : List Ex := l.filterMap (cutX lo hi)
theorem cut_fits {lo hi : Int} {x y : Ex} (hx : x.Fits) (h1 : 0 ≤ lo) (h : cutX lo hi x = some y) : y.Fits := by
  unfold cutX at h
  unfold Ex.Fits at *
  obtain ⟨F1, hF1⟩ : ∃ F1, (if x.l < lo then lo else x.l) = F1 := ⟨_, rfl⟩
  obtain ⟨F2, hF2⟩ : ∃ F2, (if x.l + x.b ≤ hi then x.l + x.b else hi) = F2 := ⟨_, rfl⟩
  rw [hF1, hF2] at h
  have hb1 : x.l ≤ F1 ∧ 0 ≤ F1 := by rw [← hF1]; split <;> omega
  have hb2 : F2 ≤ x.l + x.b := by rw [← hF2]; split <;> omega
  by_cases hq : F1 < F2
  · rw [if_pos hq] at h
    injection h with h
    subst h
    simp only
    omega
  · rw [if_neg hq] at h
    cases h
theorem left_next {lo hi : Int} {l : List Ex} {k : Nat} {x : Ex} (h : l[k]? = some x) : leftX lo hi (l.take (k + 1)) = leftX lo hi (l.take k) ++ (cutX lo hi x).toList := by
  unfold leftX
  rw [List.take_add_one, h, Option.toList_some, List.filterMap_append]
  congr 1
theorem left_prefix (lo hi : Int) (l : List Ex) (k : Nat) : leftX lo hi (l.take k) <+: leftX lo hi l := by
  refine ⟨leftX lo hi (l.drop k), ?_⟩
  unfold leftX
  rw [← List.filterMap_append, List.take_append_drop]
theorem build32 (p q r : Int) (v : World) : Sem.run Try.prog (Instr.build 32 #[(0, .int .i64 p), (1, .int .i64 q), (2, .int .i64 r)]) v = .ok (.agg #[.int .i64 p, .int .i64 q, .int .i64 r]) v := by kernel_rfl
theorem grown_of_below {w w' : World} (h : Below w.heap.size w w') : w.grownBy w' none := ⟨h.os, h.tape, h.output, h.size, fun k hk _ => h.block k hk⟩
theorem abides {β : Type} {B : Nat} {J : β → World → Prop} (hJ : AbidesFrom B J) {s : β} {A C : World} (hs : J s A) (hb : Below A.heap.size A C) : J s C := hJ s A C none hs (grown_of_below hb) (fun r e => by cases e)
/-- The iterator's three boxes and its list lie below n₀. -/
structure IterAt (n₀ : Nat) (W : World) (b0 b1 b2 : Nat) (A : Option Addr) (c : Nat) (l : List Ex) (lo hi : Int) : Prop where
  c0 : W.cell? ⟨b0, 0, none⟩ = some (.slice A l.length c)
  c1 : W.cell? ⟨b1, 0, none⟩ = some (.int .i64 lo)
  c2 : W.cell? ⟨b2, 0, none⟩ = some (.int .i64 hi)
  k0 : b0 < n₀
  k1 : b1 < n₀
  k2 : b2 < n₀
  ext : Exts W A l
  kA : 0 < l.length → ∀ a, A = some a → a.block < n₀
theorem IterAt.below {n₀ : Nat} {W V : World} {b0 b1 b2 : Nat} {A : Option Addr} {c : Nat} {l : List Ex} {lo hi : Int} (h : IterAt n₀ W b0 b1 b2 A c l lo hi) (hb : Below n₀ W V) : IterAt n₀ V b0 b1 b2 A c l lo hi :=
  ⟨(hb.cell (p := ⟨b0, 0, none⟩) h.k0).trans h.c0, (hb.cell (p := ⟨b1, 0, none⟩) h.k1).trans h.c1, (hb.cell (p := ⟨b2, 0, none⟩) h.k2).trans h.c2, h.k0, h.k1, h.k2, h.ext.kept (fun hn a ha => hb.block _ (h.kA hn a ha)), h.kA⟩
/-- Of the iterator's loop: what the first k extents leave has come. -/
def ItAt (n₀ : Nat) (W : World) (l : List Ex) (lo hi : Int) (J : List Ex → World → Prop) (i : Value) (wr : World) : Prop :=
  ∃ k : Nat, i = .int .i64 k ∧ k ≤ l.length ∧ J (leftX lo hi (l.take k)) wr ∧ Below n₀ W wr
set_option maxRecDepth 100000 in
set_option maxHeartbeats 4000000 in
theorem left1_in (n : Nat) (hn : 1 ≤ n) (lp n₀ b0 b1 b2 : Nat) (A : Option Addr) (c : Nat) (l : List Ex) (lo hi : Int) (J Jx : List Ex → World → Prop) (B : Nat) (hJ : AbidesFrom B J) (hJx : AbidesFrom B Jx)
    (hlo : 0 ≤ lo ∧ lo ≤ 4096) (hhi : 0 ≤ hi ∧ hi ≤ 4096) (hfit : ∀ x ∈ l, x.Fits) (hlen : l.length ≤ maxLen)
    (hY : ∀ pre x W, J pre W → pre.length < (leftX lo hi l).length → x.Fits → YieldAt Fence.wide (n - 1) Try.prog lp #[exV x] W fun e W' =>
      (e = .returned (.bool true) ∧ J (pre ++ [x]) W' ∧ Below n₀ W W') ∨ (e = .returned (.bool false) ∧ Jx (pre ++ [x]) W'))
    (W : World) (hn0 : n₀ ≤ W.heap.size) (hI : IterAt n₀ W b0 b1 b2 A c l lo hi) (h0 : J [] W) :
    CallsIn Fence.wide n Try.prog 43 #[.func (.yield lp) #[] #[], .pointer (some ⟨b0, 0, none⟩), .pointer (some ⟨b1, 0, none⟩), .pointer (some ⟨b2, 0, none⟩)] W fun e W' => (∃ v, e = .returned v) ∧
      ((∃ ys, ys = leftX lo hi l ∧ J ys W') ∨ (∃ pre, pre <+: leftX lo hi l ∧ Jx pre W')) := by
  refine callsIn_wide.2 ?_
  have HY := Lib.hid hY; have HJ := Lib.hid hJ; have HJx := Lib.hid hJx; have HI := Lib.hid hI; have H0 := Lib.hid h0; have HFIT := Lib.hid hfit
  have c0 := hI.c0
  clear hY hJ hJx hI h0 hfit
  unfold maxLen at hlen
  go_enter Try.func43, Try.ntmps43
  go_wp2_with (fail)
  go_loopw [11] (fun i wr => ItAt n₀ W l lo hi J i wr) (fun i _ => l.length - (intOf i).toNat)
  case atStart => exact ⟨0, rfl, Nat.zero_le _, H0.out, Below.refl _ _⟩
  case round =>
    obtain ⟨k, rfl, hk, hJk, hbl⟩ := hrel
    have HB0 := Lib.hid hbl; have HJ0 := Lib.hid hJk
    have HIr := Lib.hid (HI.out.below hbl)
    clear hbl hJk c0
    by_cases hlt : k < l.length
    · have hki : (k : Int) < l.length := by omega
      obtain ⟨b, o, x, rfl, hat, wf, c0, c1, c2⟩ := HIr.out.ext.at_ hlt
      have HKA := Lib.hid (HIr.out.kA (by omega) _ rfl)
      have HN := Lib.hid (left_next (lo := lo) (hi := hi) hat)
      have hfx := HFIT.out x (List.mem_of_getElem? hat)
      have HAT := Lib.hid hat; clear hat wf
      obtain ⟨s1, s2, s3, s4⟩ := fits_sums hfx
      have HEX := Lib.hid (fun v => end_any x v s1 s2)
      have HFX := Lib.hid hfx; clear hfx s1 s2 s3 s4
      have hg1 := HIr.out.c1
      have hg2 := HIr.out.c2
      go_upto_region 3 with (fail)
      obtain ⟨hbx, hbb⟩ := round_box wr x _ rfl
      generalize hw0 : wr.alloc (.cells #[.int .i64 x.l, .int .i64 x.b, .int .i64 x.a] 32) = w0 at *
      have HBB := Lib.hid hbb
      have HX := Lib.hid hbx
      have HI0 := Lib.hid (HIr.out.below (hbb.mono (Nat.le_trans hn0 (Nat.le_trans (HI.out.below HB0.out |>.k0 |> fun _ => HB0.out.size) (Nat.le_refl _)))))
      clear hw0 hbx hbb c0 c1 c2 hg1 hg2
      obtain ⟨C, hC0, hCl, hCi, hCm⟩ := class_of w0 (fun v => (v.cell? ⟨wr.heap.size, 0, none⟩ = some (.int .i64 x.l) ∧ v.cell? ⟨wr.heap.size, 1, none⟩ = some (.int .i64 x.b) ∧ v.cell? ⟨wr.heap.size, 2, none⟩ = some (.int .i64 x.a)) ∧ v.cell? ⟨b1, 0, none⟩ = some (.int .i64 lo) ∧ v.cell? ⟨b2, 0, none⟩ = some (.int .i64 hi)) (fun v hb => ⟨blk_cells3 HX.out hb, (HI0.out.below (hb.mono (by have := HB0.out.size; have := HBB.out.size; omega))).c1, (HI0.out.below (hb.mono (by have := HB0.out.size; have := HBB.out.size; omega))).c2⟩)
      have HC0 := Lib.hid hC0; have HL := Lib.hid hCl; have HCi := Lib.hid hCi; have HCm := Lib.hid hCm
      clear hC0 hCl hCi hCm
      obtain ⟨F1, hF1⟩ : ∃ F1, (if x.l < lo then lo else x.l) = F1 := ⟨_, rfl⟩
      obtain ⟨F2, hF2⟩ : ∃ F2, (if x.l + x.b ≤ hi then x.l + x.b else hi) = F2 := ⟨_, rfl⟩
      have HF1 := Lib.hid hF1; have HF2 := Lib.hid hF2
      clear hF1 hF2
      have HE := HEX
      unfold exV at HE
      refine wp_region_class C (by kernel_rfl) (by kernel_rfl) HC0.out ?_
      go_big_quiet_want
      go_big_quiet_op
      first | go_big_quiet_on | (refine ⟨_, fun _ _ => rfl, ?_⟩; go_big_quiet_on)
      go_big_quiet_want
      refine quiet_run (v := .int .i64 x.l) (fun v hv => by obtain ⟨⟨a0, a1, a2⟩, g1, g2⟩ := HL.out v hv; go_simp) ?_
      simp only [Act.put, List.setIfInBounds_toArray, List.set_cons_zero, List.set_cons_succ]
      go_big_quiet_on
      go_big_quiet_want
      refine quiet_run (v := .int .i64 lo) (fun v hv => by obtain ⟨⟨a0, a1, a2⟩, g1, g2⟩ := HL.out v hv; go_simp) ?_
      simp only [Act.put, List.setIfInBounds_toArray, List.set_cons_zero, List.set_cons_succ]
      go_big_quiet_on
      go_big_quiet_want
      refine quiet_run (v := .int .i64 F1) (fun v hv => by rw [← HF1.out]; by_cases hq : x.l < lo <;> go_simp) ?_
      simp only [Act.put, List.setIfInBounds_toArray, List.set_cons_zero, List.set_cons_succ]
      go_big_quiet_on
      go_big_quiet_want
      refine quiet_run (v := .agg #[.int .i64 x.l, .int .i64 x.b, .int .i64 x.a]) (fun v hv => by obtain ⟨⟨a0, a1, a2⟩, g1, g2⟩ := HL.out v hv; go_simp) ?_
      simp only [Act.put, List.setIfInBounds_toArray, List.set_cons_zero, List.set_cons_succ]
      go_big_quiet_on
      go_big_quiet_want
      refine quiet_call (f := 27) (args := #[.agg #[.int .i64 x.l, .int .i64 x.b, .int .i64 x.a]]) (fun v _ => by go_simp) (fun v hv => (HE.out v).mono (fun e w' h => ⟨h.1, HCm.out v w' hv h.2⟩)) ?_
      simp only [Act.put, List.setIfInBounds_toArray, List.set_cons_zero, List.set_cons_succ]
      go_big_quiet_on
      go_big_quiet_want
      refine quiet_run (v := .int .i64 hi) (fun v hv => by obtain ⟨⟨a0, a1, a2⟩, g1, g2⟩ := HL.out v hv; go_simp) ?_
      simp only [Act.put, List.setIfInBounds_toArray, List.set_cons_zero, List.set_cons_succ]
      go_big_quiet_on
      go_big_quiet_want
      refine quiet_run (v := .int .i64 F2) (fun v hv => by rw [← HF2.out]; by_cases hq : x.l + x.b ≤ hi <;> (go_simp <;> omega)) ?_
      simp only [Act.put, List.setIfInBounds_toArray, List.set_cons_zero, List.set_cons_succ]
      go_big_quiet_on
      go_big_quiet_want
      go_big_quiet_op
      first | go_big_quiet_on | (refine ⟨_, fun _ _ => rfl, ?_⟩; go_big_quiet_on)
      go_big_quiet_want
      go_big_quiet_op
      first | go_big_quiet_on | (refine ⟨_, fun _ _ => rfl, ?_⟩; go_big_quiet_on)
      refine wpQuiet_nil ?_
      intro w5 hC5
      have HBW := Lib.hid (HBB.out.trans ((HCi.out _ hC5).mono HBB.out.size))
      have HJ5 := Lib.hid (abides HJ.out HJ0.out HBW.out)
      have HB5 := Lib.hid (HB0.out.trans (HBW.out.mono (Nat.le_trans hn0 HB0.out.size)))
      obtain ⟨⟨a0, a1, a2⟩, _, _⟩ := HL.out _ hC5
      clear hC5
      have hf := HFX.out
      unfold Ex.Fits at hf
      have hb1 : F1 = x.l ∨ F1 = lo := by rw [← HF1.out]; by_cases h : x.l < lo <;> simp [h]
      have hb2 : F2 = x.l + x.b ∨ F2 = hi := by rw [← HF2.out]; by_cases h : x.l + x.b ≤ hi <;> simp [h]
      have hw1 : IntKind.i64.wrap (F2 - F1) = F2 - F1 := i64w _ (by omega)
      have hw2 : IntKind.i64.wrap (x.a + F1) = x.a + F1 := i64w _ (by omega)
      have hw3 : IntKind.i64.wrap (x.a + F1 - x.l) = x.a + F1 - x.l := i64w _ (by omega)
      clear hb1 hb2 hf
      by_cases hq : F1 < F2
      · have HCUT := Lib.hid (show cutX lo hi x = some ⟨F1, F2 - F1, x.a + F1 - x.l⟩ by unfold cutX; rw [HF1.out, HF2.out, if_pos hq])
        have HNX := Lib.hid (show leftX lo hi (l.take (k + 1)) = leftX lo hi (l.take k) ++ [⟨F1, F2 - F1, x.a + F1 - x.l⟩] by rw [HN.out, HCUT.out]; rfl)
        obtain ⟨fn, tmps, assign, body, hy, hR⟩ := HY.out (leftX lo hi (l.take k)) ⟨F1, F2 - F1, x.a + F1 - x.l⟩ w5 HJ5.out (by
          have h1 := (left_prefix lo hi l (k + 1)).length_le
          rw [HNX.out, List.length_append] at h1
          simp only [List.length_cons, List.length_nil] at h1
          omega) (cut_fits HFX.out hlo.1 HCUT.out)
        have HR := Lib.hid hR; clear hR
        unfold exV at hy
        dsimp only at hy
        go_upto_region 4 with (fail)
        refine (wpIn_wide (n := n)).1 ?_
        have hbld := build32 F1 (F2 - F1) (x.a + F1 - x.l) w5
        gi_wp2
        refine HR.out.mono ?_
        rintro e W3 (⟨rfl, hJ3, hk3⟩ | ⟨rfl, hJx3⟩)
        · have HJ3 := Lib.hid (show J (leftX lo hi (l.take (k + 1))) W3 by rw [HNX.out]; exact hJ3)
          have HK3 := Lib.hid (HB5.out.trans hk3)
          clear hJ3 hk3
          have hnt : Sem.run Try.prog (Op.unary UnOp.not (.bool true)) W3 = .ok (.bool false) W3 := rfl
          gi_wp2
          go_wp2_with (fail)
          go_roundw
          case rel => exact ⟨k + 1, by go_num, by omega, HJ3.out, HK3.out⟩
          case measure => simp [intOf]; omega
        · have HJ3 := Lib.hid hJx3
          clear hJx3
          have hnt : Sem.run Try.prog (Op.unary UnOp.not (.bool false)) W3 = .ok (.bool true) W3 := rfl
          gi_wp2
          go_wp2_with (fail)
          refine bodyPost_ret (results_none rfl _ _ _) rfl ?_
          exact ⟨⟨_, rfl⟩, .inr ⟨_, by rw [← HNX.out]; exact left_prefix _ _ _ _, HJ3.out⟩⟩
      · have HNX := Lib.hid (show leftX lo hi (l.take (k + 1)) = leftX lo hi (l.take k) by rw [HN.out]; unfold cutX; rw [HF1.out, HF2.out, if_neg hq]; exact List.append_nil _)
        have HJ3 := Lib.hid (show J (leftX lo hi (l.take (k + 1))) w5 by rw [HNX.out]; exact HJ5.out)
        go_wp2_with (fail)
        go_roundw
        case rel => exact ⟨k + 1, by go_num, by omega, HJ3.out, HB5.out⟩
        case measure => simp [intOf]; omega
    · obtain rfl : k = l.length := by omega
      have HJE := Lib.hid (show J (leftX lo hi l) wr by have := HJ0.out; rwa [List.take_length] at this)
      go_wp2
      go_end0
      exact ⟨⟨_, rfl⟩, .inl ⟨_, rfl, HJE.out⟩⟩
end Go.Proofs.Ytdopcliicjmjeaa
