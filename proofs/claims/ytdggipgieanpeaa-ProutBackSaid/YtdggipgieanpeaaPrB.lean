/- The command of any list: the document's Change. -/
import Derived.Test.YtdggipgieanpeaaPrA
import Derived.Test.YtdggipgieanpeaaAsk
import Derived.Test.YtdggipgieanpeaaRefs
import Derived.Laws.Rows
import Derived.Laws.CopyOwn
import Derived.Deep.RegionHeld3
import Derived.Laws.ResultCell
import Derived.Deep.Cut
import Derived.Deep.DeepCutAuto
namespace Go.Proofs.Ytdggipgieanpeaa
open Go.RowKit
theorem setRow_blk {w : World} {g : Nat} {T : TypeId} {cs cs' : Array Value} (h : Blk w g T cs) : Blk (w.setRow g cs') g T cs' := setRow_heap w g cs cs' T (0, 0) h
theorem wpList_runs {P : Program} {ops : Array Oper} {rest : List Oper} {o : Oper} {a : Act} {w : World} {Q : Exit → Act → World → Prop} (hg : o.guard = none) (dst : Option Tmp) (hdst : o.dst = dst)
    (v : Value) (w' : World) (hrun : (execOp a.eval o).run P w = .ok (.value v) w')
    (h : wpList P ops Q rest (a.put dst v) w') : wpList P ops Q (o :: rest) a w :=
  wpList_plain hg fun K hK => by
    subst hdst
    unfold Oper.wp
    rw [hrun, Oper.upon_value]
    exact hK _ _ h
theorem results_kc {fn : Func} {p u : Tmp} (h : fn.results = #[.cell p 26, .tmp u]) (tmps : Array Value) (w : World) (g : Nat) (x : Kc) (hp : tmps.getD p undef = .pointer (some ⟨g, 0, none⟩)) (hg : Blk w g 26 (kcC x)) :
    (results fn tmps).run Try.prog w = .ok (.tuple #[kcV x, tmps.getD u undef]) w := by
  rw [results_cell_tmp h, hp]
  have := run_loadVar_row (P := Try.prog) w g 26 26 (kcC x) (0, 0) _ hg Try.underlying26 rfl kc_info
  simp [asAddr, this, Result.andThen]
theorem ch_head {a t : Int} {s : ByteArray} (h : ¬ headOk a s) : chX a t s = none := by unfold chX; rw [if_neg (fun hc => h hc.1)]
theorem ch_tail {a t : Int} {s : ByteArray} {j : Nat} (hj : j < 24) (h16 : 16 ≤ j) (h : ¬ tlOk s j) : chX a t s = none := by unfold chX; rw [if_neg (fun hc => h (hc.2.1 j hj h16))]
theorem ch_bad {a t : Int} {s : ByteArray} (h : badB a t (big s 8 8) (onB s) = true) : chX a t s = none := by unfold chX; rw [if_neg (fun hc => by rw [h] at hc; exact absurd hc.2.2 (by decide))]
theorem ch_yes {a t : Int} {s : ByteArray} (h : headOk a s) (ht : ∀ j, j < 24 → 16 ≤ j → tlOk s j) (hb : badB a t (big s 8 8) (onB s) = false) : chX a t s = some (cmO a t (big s 0 8) (big s 8 8) (onB s)) := by unfold chX; rw [if_pos ⟨h, ht, hb⟩]
set_option maxRecDepth 100000 in
set_option maxHeartbeats 16000000 in
theorem refChange_any (a t : Int) (s : ByteArray) (w : World) : Calls Try.prog 8 #[.int .i64 a, .int .i64 t, .string s] w fun e w' => e = .returned (chV (chX a t s)) ∧ Below w.heap.size w w' := by
  have HR0 := Lib.hid (Blk.new w 26 (kcC zK))
  have HB0 := Lib.hid ((Below.refl w.heap.size w).alloc (Nat.le_refl _) (.cells (kcC zK) 26))
  by_cases h24 : s.size = 24
  · have q24 : ((s.size : Int) != 24) = false := by rw [bne_eq_false_iff_eq]; omega
    by_cases h0 : 0 ≤ a
    · by_cases h6 : a ≤ 6
      · by_cases h5 : a = 5
        · have HV := Lib.hid (ch_head (t := t) (show ¬ headOk a s from fun h => h.2.2.2 h5))
          subst h5
          clear h24 h0 h6
          go_enter Try.func8, Try.ntmps8
          go_upto_region 1 with (fail)
          change Code.wp _ _ _ _ (w.alloc (.cells (kcC zK) 26))
          generalize w.alloc (.cells (kcC zK) 26) = v0 at *
          obtain ⟨p, hp⟩ : ∃ p, p = w.heap.size := ⟨_, rfl⟩
          have HP := Lib.hid hp
          rw [← hp] at HR0 ⊢
          clear hp
          go_upto_region 2 with (fail)
          refine wp_region_lit ?_
          refine wpList_runs rfl (some 30) rfl (kcV zK) v0 (by kernel_rfl) ?_
          refine wpList_store_row rfl 26 (.tmp 6) (.tmp 30) rfl p (kcC zK) rfl rfl 26 (kcC zK) HR0.out kc_info rfl (kcC_one _) ?_
          go_wp2_with (fail)
          refine bodyPost_ret_by (results_kc rfl _ _ p zK rfl (setRow_blk HR0.out)) rfl ?_
          exact ⟨by rw [HV.out]; rfl, below_setRow HB0.out (Nat.le_of_eq HP.out.symm) _⟩
        · have q5 : (a == 5) = false := by simpa using h5
          have ha : a = 0 ∨ a = 1 ∨ a = 2 ∨ a = 3 ∨ a = 4 ∨ a = 6 := by omega
          have HA := Lib.hid ha
          have HOK := Lib.hid (show headOk a s from ⟨h24, h0, h6, h5⟩)
          have HNT := Lib.hid (fun (j : Nat) (h1 : j < 24) (h2 : 16 ≤ j) (h : ¬ tlOk s j) => ch_tail (a := a) (t := t) h1 h2 h)
          have HNB0 := Lib.hid (ch_bad (a := a) (t := t) (s := s))
          have HYS0 := Lib.hid (fun (ht : ∀ j, j < 24 → 16 ≤ j → tlOk s j) => ch_yes (t := t) HOK.out ht)
          have k0 : bigR s 0 8 = big s 0 8 := bigR_yes (a := 0) (n := 8) (okB_yes (by omega))
          have k8 : bigR s 8 8 = big s 8 8 := bigR_yes (a := 8) (n := 8) (okB_yes (by omega))
          have HB1 := Lib.hid (fun v => refBig_any s 0 8 v (by unfold maxLen; omega))
          have HB2 := Lib.hid (fun v => refBig_any s 8 8 v (by unfold maxLen; omega))
          rw [k0] at HB1
          rw [k8] at HB2
          obtain ⟨on, hon⟩ : ∃ on, on = onB s := ⟨_, rfl⟩
          have q20 : ((byt s 20 : Int) == 1) = on := by
            rw [hon]; unfold onB
            cases h : (byt s 20 == 1) with
            | false => rw [beq_eq_false_iff_ne] at h ⊢; omega
            | true => rw [beq_iff_eq] at h ⊢; omega
          rw [← hon] at HNB0 HYS0
          generalize big s 0 8 = key at *
          generalize big s 8 8 = oth at *
          clear h5 k0 k8 hon ha
          have HZ24 := Lib.hid h24
          clear h24
          have Q20 := Lib.hid q20; clear q20
          go_enter Try.func8, Try.ntmps8
          go_upto_region 1 with (fail)
          change Code.wp _ _ _ _ (w.alloc (.cells (kcC zK) 26))
          generalize w.alloc (.cells (kcC zK) 26) = v0 at *
          obtain ⟨p, hp⟩ : ∃ p, p = w.heap.size := ⟨_, rfl⟩
          have HP := Lib.hid hp
          rw [← hp] at HR0 ⊢
          clear hp
          go_wp2_with (fail)
          refine (HB1.out _).mono ?_; rintro e v1 ⟨rfl, rfl⟩
          go_wp2_with (fail)
          refine (HB2.out _).mono ?_; rintro e v2 ⟨rfl, rfl⟩
          go_wp2_with (fail)
          clear q24 h0 h6 q5
          go_loopw [12] (fun i wr => ∃ k : Nat, 16 ≤ k ∧ k ≤ 24 ∧ i = .int .i64 k ∧ Hid (Blk wr p 26 (kcC zK)) ∧ Hid (Below w.heap.size w wr) ∧ Hid (∀ j, j < k → 16 ≤ j → tlOk s j)) (fun i _ => 24 - (intOf i).toNat)
          case atStart => exact ⟨16, by decide, by decide, rfl, HR0, HB0, Lib.hid (fun j h1 h2 => by omega)⟩
          case round =>
            obtain ⟨k, hk16, hk24, rfl, HZ, HB, HJ⟩ := hrel
            by_cases hlt : (k : Int) < 24
            · have hix := fun w => index_byt s k k rfl (by have := HZ24.out; omega) w
              have HTL := Lib.hid (show tlOk s k = (byt s k = 0 ∨ (k = 20 ∧ byt s k = 1)) from rfl)
              have HN := Lib.hid (HNT.out k (by omega) hk16)
              generalize hby : byt s k = b at *
              by_cases hb0 : b = 0
              · have qb : ((b : Int) != 0) = false := by rw [bne_eq_false_iff_eq]; omega
                have HJ1 := Lib.hid (show ∀ j, j < k + 1 → 16 ≤ j → tlOk s j from fun j h1 h2 => by
                  by_cases h : j = k
                  · subst h; rw [HTL.out]; exact .inl hb0
                  · exact HJ.out j (by omega) h2)
                clear hby hb0
                go_wp2_with (fail)
                go_roundw
                case rel => exact ⟨k + 1, by omega, by omega, by go_num, HZ, HB, HJ1⟩
                case measure => simp [intOf]; omega
              · have qb : ((b : Int) != 0) = true := by rw [bne_iff_ne]; omega
                by_cases hk : k = 20
                · have qk : ((k : Int) != 20) = false := by rw [bne_eq_false_iff_eq]; omega
                  by_cases hb1 : b = 1
                  · have q1 : ((b : Int) != 1) = false := by rw [bne_eq_false_iff_eq]; omega
                    have HJ1 := Lib.hid (show ∀ j, j < k + 1 → 16 ≤ j → tlOk s j from fun j h1 h2 => by
                      by_cases h : j = k
                      · subst h; rw [HTL.out]; exact .inr ⟨hk, hb1⟩
                      · exact HJ.out j (by omega) h2)
                    clear hby hb0 hb1 hk
                    go_wp2_with (fail)
                    go_roundw
                    case rel => exact ⟨k + 1, by omega, by omega, by go_num, HZ, HB, HJ1⟩
                    case measure => simp [intOf]; omega
                  · have q1 : ((b : Int) != 1) = true := by rw [bne_iff_ne]; omega
                    have HV := Lib.hid (HN.out (by rw [HTL.out]; exact fun h => h.elim hb0 (fun h => hb1 h.2)))
                    clear hby hb0 hb1 hk
                    go_upto_region 9 with (fail)
                    refine wp_region_lit ?_
                    refine wpList_runs rfl (some 59) rfl (kcV zK) wr (by kernel_rfl) ?_
                    refine wpList_store_row rfl 26 (.tmp 6) (.tmp 59) rfl p (kcC zK) rfl rfl 26 (kcC zK) HZ.out kc_info rfl (kcC_one _) ?_
                    go_wp2_with (fail)
                    refine bodyPost_ret_by (results_kc rfl _ _ p zK rfl (setRow_blk HZ.out)) rfl ?_
                    exact ⟨by rw [HV.out]; rfl, below_setRow HB.out (Nat.le_of_eq HP.out.symm) _⟩
                · have qk : ((k : Int) != 20) = true := by rw [bne_iff_ne]; omega
                  have HV := Lib.hid (HN.out (by rw [HTL.out]; exact fun h => h.elim hb0 (fun h => hk h.1)))
                  clear hby hb0 hk
                  go_upto_region 9 with (fail)
                  refine wp_region_lit ?_
                  refine wpList_runs rfl (some 59) rfl (kcV zK) wr (by kernel_rfl) ?_
                  refine wpList_store_row rfl 26 (.tmp 6) (.tmp 59) rfl p (kcC zK) rfl rfl 26 (kcC zK) HZ.out kc_info rfl (kcC_one _) ?_
                  go_wp2_with (fail)
                  refine bodyPost_ret_by (results_kc rfl _ _ p zK rfl (setRow_blk HZ.out)) rfl ?_
                  exact ⟨by rw [HV.out]; rfl, below_setRow HB.out (Nat.le_of_eq HP.out.symm) _⟩
            · obtain rfl : k = 24 := by omega
              have HNB := HNB0; have HYS := Lib.hid (HYS0.out HJ.out)
              have hix := fun w => index_byt s 20 20 rfl (by have := HZ24.out; omega) w
              have q20 := Q20.out
              clear HNT HNB0 HYS0 HJ hlt hk16 hk24
              generalize byt s 20 = b20 at *
              go_upto_region 11 with (fail)
              clear hix q20 Q20
              go_cut [99] (fun s99 wx => s99 = .bool (badB a t oth on) ∧ Hid (Blk wx p 26 (kcC zK)) ∧ Hid (Below w.heap.size w wx))
              case first =>
                clear HNB HYS HOK HB1 HB2
                have ha := HA.out; clear HA
                rcases ha with rfl | rfl | rfl | rfl | rfl | rfl
                · skip
                  cases on with
                  | false =>
                    by_cases h8 : oth = 0
                    · have z8n : (oth != 0) = false := by simpa using h8
                      have z8 : ((oth : Int) != 0) = false := by rw [bne_eq_false_iff_eq]; omega
                      clear h8
                      by_cases ht : t = 0
                      · have zt : (t != 0) = false := by simpa using ht
                        have HBV := Lib.hid (show badB 0 t oth false = false by unfold badB; rw [z8n, zt]; rfl)
                        clear z8n
                        go_wp2_with (fail)
                        go_meet
                        exact ⟨by rw [HBV.out], HZ, HB⟩
                      · have zt : (t != 0) = true := by simpa using ht
                        have HBV := Lib.hid (show badB 0 t oth false = true by unfold badB; rw [z8n, zt]; rfl)
                        clear z8n
                        go_wp2_with (fail)
                        go_meet
                        exact ⟨by rw [HBV.out], HZ, HB⟩
                    · have z8n : (oth != 0) = true := by simpa using h8
                      have z8 : ((oth : Int) != 0) = true := by rw [bne_iff_ne]; omega
                      clear h8
                      by_cases ht : t = 0
                      · have zt : (t != 0) = false := by simpa using ht
                        have HBV := Lib.hid (show badB 0 t oth false = false by unfold badB; rw [z8n, zt]; rfl)
                        clear z8n
                        go_wp2_with (fail)
                        go_meet
                        exact ⟨by rw [HBV.out], HZ, HB⟩
                      · have zt : (t != 0) = true := by simpa using ht
                        have HBV := Lib.hid (show badB 0 t oth false = true by unfold badB; rw [z8n, zt]; rfl)
                        clear z8n
                        go_wp2_with (fail)
                        go_meet
                        exact ⟨by rw [HBV.out], HZ, HB⟩
                  | true =>
                    by_cases h8 : oth = 0
                    · have z8n : (oth != 0) = false := by simpa using h8
                      have z8 : ((oth : Int) != 0) = false := by rw [bne_eq_false_iff_eq]; omega
                      clear h8
                      by_cases ht : t = 0
                      · have zt : (t != 0) = false := by simpa using ht
                        have HBV := Lib.hid (show badB 0 t oth true = false by unfold badB; rw [z8n, zt]; rfl)
                        clear z8n
                        go_wp2_with (fail)
                        go_meet
                        exact ⟨by rw [HBV.out], HZ, HB⟩
                      · have zt : (t != 0) = true := by simpa using ht
                        have HBV := Lib.hid (show badB 0 t oth true = true by unfold badB; rw [z8n, zt]; rfl)
                        clear z8n
                        go_wp2_with (fail)
                        go_meet
                        exact ⟨by rw [HBV.out], HZ, HB⟩
                    · have z8n : (oth != 0) = true := by simpa using h8
                      have z8 : ((oth : Int) != 0) = true := by rw [bne_iff_ne]; omega
                      clear h8
                      by_cases ht : t = 0
                      · have zt : (t != 0) = false := by simpa using ht
                        have HBV := Lib.hid (show badB 0 t oth true = false by unfold badB; rw [z8n, zt]; rfl)
                        clear z8n
                        go_wp2_with (fail)
                        go_meet
                        exact ⟨by rw [HBV.out], HZ, HB⟩
                      · have zt : (t != 0) = true := by simpa using ht
                        have HBV := Lib.hid (show badB 0 t oth true = true by unfold badB; rw [z8n, zt]; rfl)
                        clear z8n
                        go_wp2_with (fail)
                        go_meet
                        exact ⟨by rw [HBV.out], HZ, HB⟩
                · skip
                  cases on with
                  | false =>
                    by_cases h8 : oth = 0
                    · have z8n : (oth != 0) = false := by simpa using h8
                      have z8 : ((oth : Int) != 0) = false := by rw [bne_eq_false_iff_eq]; omega
                      clear h8
                      by_cases ht : t = 0
                      · have zt : (t != 0) = false := by simpa using ht
                        have HBV := Lib.hid (show badB 1 t oth false = false by unfold badB; rw [z8n, zt]; rfl)
                        clear z8n
                        go_wp2_with (fail)
                        go_meet
                        exact ⟨by rw [HBV.out], HZ, HB⟩
                      · have zt : (t != 0) = true := by simpa using ht
                        have HBV := Lib.hid (show badB 1 t oth false = false by unfold badB; rw [z8n, zt]; rfl)
                        clear z8n
                        go_wp2_with (fail)
                        go_meet
                        exact ⟨by rw [HBV.out], HZ, HB⟩
                    · have z8n : (oth != 0) = true := by simpa using h8
                      have z8 : ((oth : Int) != 0) = true := by rw [bne_iff_ne]; omega
                      clear h8
                      by_cases ht : t = 0
                      · have zt : (t != 0) = false := by simpa using ht
                        have HBV := Lib.hid (show badB 1 t oth false = true by unfold badB; rw [z8n, zt]; rfl)
                        clear z8n
                        go_wp2_with (fail)
                        go_meet
                        exact ⟨by rw [HBV.out], HZ, HB⟩
                      · have zt : (t != 0) = true := by simpa using ht
                        have HBV := Lib.hid (show badB 1 t oth false = true by unfold badB; rw [z8n, zt]; rfl)
                        clear z8n
                        go_wp2_with (fail)
                        go_meet
                        exact ⟨by rw [HBV.out], HZ, HB⟩
                  | true =>
                    by_cases h8 : oth = 0
                    · have z8n : (oth != 0) = false := by simpa using h8
                      have z8 : ((oth : Int) != 0) = false := by rw [bne_eq_false_iff_eq]; omega
                      clear h8
                      by_cases ht : t = 0
                      · have zt : (t != 0) = false := by simpa using ht
                        have HBV := Lib.hid (show badB 1 t oth true = true by unfold badB; rw [z8n, zt]; rfl)
                        clear z8n
                        go_wp2_with (fail)
                        go_meet
                        exact ⟨by rw [HBV.out], HZ, HB⟩
                      · have zt : (t != 0) = true := by simpa using ht
                        have HBV := Lib.hid (show badB 1 t oth true = true by unfold badB; rw [z8n, zt]; rfl)
                        clear z8n
                        go_wp2_with (fail)
                        go_meet
                        exact ⟨by rw [HBV.out], HZ, HB⟩
                    · have z8n : (oth != 0) = true := by simpa using h8
                      have z8 : ((oth : Int) != 0) = true := by rw [bne_iff_ne]; omega
                      clear h8
                      by_cases ht : t = 0
                      · have zt : (t != 0) = false := by simpa using ht
                        have HBV := Lib.hid (show badB 1 t oth true = true by unfold badB; rw [z8n, zt]; rfl)
                        clear z8n
                        go_wp2_with (fail)
                        go_meet
                        exact ⟨by rw [HBV.out], HZ, HB⟩
                      · have zt : (t != 0) = true := by simpa using ht
                        have HBV := Lib.hid (show badB 1 t oth true = true by unfold badB; rw [z8n, zt]; rfl)
                        clear z8n
                        go_wp2_with (fail)
                        go_meet
                        exact ⟨by rw [HBV.out], HZ, HB⟩
                · skip
                  cases on with
                  | false =>
                    by_cases h8 : oth = 0
                    · have z8n : (oth != 0) = false := by simpa using h8
                      have z8 : ((oth : Int) != 0) = false := by rw [bne_eq_false_iff_eq]; omega
                      clear h8
                      by_cases ht : t = 0
                      · have zt : (t != 0) = false := by simpa using ht
                        have HBV := Lib.hid (show badB 2 t oth false = false by unfold badB; rw [z8n, zt]; rfl)
                        clear z8n
                        go_wp2_with (fail)
                        go_meet
                        exact ⟨by rw [HBV.out], HZ, HB⟩
                      · have zt : (t != 0) = true := by simpa using ht
                        have HBV := Lib.hid (show badB 2 t oth false = false by unfold badB; rw [z8n, zt]; rfl)
                        clear z8n
                        go_wp2_with (fail)
                        go_meet
                        exact ⟨by rw [HBV.out], HZ, HB⟩
                    · have z8n : (oth != 0) = true := by simpa using h8
                      have z8 : ((oth : Int) != 0) = true := by rw [bne_iff_ne]; omega
                      clear h8
                      by_cases ht : t = 0
                      · have zt : (t != 0) = false := by simpa using ht
                        have HBV := Lib.hid (show badB 2 t oth false = true by unfold badB; rw [z8n, zt]; rfl)
                        clear z8n
                        go_wp2_with (fail)
                        go_meet
                        exact ⟨by rw [HBV.out], HZ, HB⟩
                      · have zt : (t != 0) = true := by simpa using ht
                        have HBV := Lib.hid (show badB 2 t oth false = true by unfold badB; rw [z8n, zt]; rfl)
                        clear z8n
                        go_wp2_with (fail)
                        go_meet
                        exact ⟨by rw [HBV.out], HZ, HB⟩
                  | true =>
                    by_cases h8 : oth = 0
                    · have z8n : (oth != 0) = false := by simpa using h8
                      have z8 : ((oth : Int) != 0) = false := by rw [bne_eq_false_iff_eq]; omega
                      clear h8
                      by_cases ht : t = 0
                      · have zt : (t != 0) = false := by simpa using ht
                        have HBV := Lib.hid (show badB 2 t oth true = true by unfold badB; rw [z8n, zt]; rfl)
                        clear z8n
                        go_wp2_with (fail)
                        go_meet
                        exact ⟨by rw [HBV.out], HZ, HB⟩
                      · have zt : (t != 0) = true := by simpa using ht
                        have HBV := Lib.hid (show badB 2 t oth true = true by unfold badB; rw [z8n, zt]; rfl)
                        clear z8n
                        go_wp2_with (fail)
                        go_meet
                        exact ⟨by rw [HBV.out], HZ, HB⟩
                    · have z8n : (oth != 0) = true := by simpa using h8
                      have z8 : ((oth : Int) != 0) = true := by rw [bne_iff_ne]; omega
                      clear h8
                      by_cases ht : t = 0
                      · have zt : (t != 0) = false := by simpa using ht
                        have HBV := Lib.hid (show badB 2 t oth true = true by unfold badB; rw [z8n, zt]; rfl)
                        clear z8n
                        go_wp2_with (fail)
                        go_meet
                        exact ⟨by rw [HBV.out], HZ, HB⟩
                      · have zt : (t != 0) = true := by simpa using ht
                        have HBV := Lib.hid (show badB 2 t oth true = true by unfold badB; rw [z8n, zt]; rfl)
                        clear z8n
                        go_wp2_with (fail)
                        go_meet
                        exact ⟨by rw [HBV.out], HZ, HB⟩
                · skip
                  cases on with
                  | false =>
                    by_cases h8 : oth = 0
                    · have z8n : (oth != 0) = false := by simpa using h8
                      have z8 : ((oth : Int) != 0) = false := by rw [bne_eq_false_iff_eq]; omega
                      clear h8
                      by_cases ht : t = 0
                      · have zt : (t != 0) = false := by simpa using ht
                        have HBV := Lib.hid (show badB 3 t oth false = false by unfold badB; rw [z8n, zt]; rfl)
                        clear z8n
                        go_wp2_with (fail)
                        go_meet
                        exact ⟨by rw [HBV.out], HZ, HB⟩
                      · have zt : (t != 0) = true := by simpa using ht
                        have HBV := Lib.hid (show badB 3 t oth false = true by unfold badB; rw [z8n, zt]; rfl)
                        clear z8n
                        go_wp2_with (fail)
                        go_meet
                        exact ⟨by rw [HBV.out], HZ, HB⟩
                    · have z8n : (oth != 0) = true := by simpa using h8
                      have z8 : ((oth : Int) != 0) = true := by rw [bne_iff_ne]; omega
                      clear h8
                      by_cases ht : t = 0
                      · have zt : (t != 0) = false := by simpa using ht
                        have HBV := Lib.hid (show badB 3 t oth false = true by unfold badB; rw [z8n, zt]; rfl)
                        clear z8n
                        go_wp2_with (fail)
                        go_meet
                        exact ⟨by rw [HBV.out], HZ, HB⟩
                      · have zt : (t != 0) = true := by simpa using ht
                        have HBV := Lib.hid (show badB 3 t oth false = true by unfold badB; rw [z8n, zt]; rfl)
                        clear z8n
                        go_wp2_with (fail)
                        go_meet
                        exact ⟨by rw [HBV.out], HZ, HB⟩
                  | true =>
                    by_cases h8 : oth = 0
                    · have z8n : (oth != 0) = false := by simpa using h8
                      have z8 : ((oth : Int) != 0) = false := by rw [bne_eq_false_iff_eq]; omega
                      clear h8
                      by_cases ht : t = 0
                      · have zt : (t != 0) = false := by simpa using ht
                        have HBV := Lib.hid (show badB 3 t oth true = true by unfold badB; rw [z8n, zt]; rfl)
                        clear z8n
                        go_wp2_with (fail)
                        go_meet
                        exact ⟨by rw [HBV.out], HZ, HB⟩
                      · have zt : (t != 0) = true := by simpa using ht
                        have HBV := Lib.hid (show badB 3 t oth true = true by unfold badB; rw [z8n, zt]; rfl)
                        clear z8n
                        go_wp2_with (fail)
                        go_meet
                        exact ⟨by rw [HBV.out], HZ, HB⟩
                    · have z8n : (oth != 0) = true := by simpa using h8
                      have z8 : ((oth : Int) != 0) = true := by rw [bne_iff_ne]; omega
                      clear h8
                      by_cases ht : t = 0
                      · have zt : (t != 0) = false := by simpa using ht
                        have HBV := Lib.hid (show badB 3 t oth true = true by unfold badB; rw [z8n, zt]; rfl)
                        clear z8n
                        go_wp2_with (fail)
                        go_meet
                        exact ⟨by rw [HBV.out], HZ, HB⟩
                      · have zt : (t != 0) = true := by simpa using ht
                        have HBV := Lib.hid (show badB 3 t oth true = true by unfold badB; rw [z8n, zt]; rfl)
                        clear z8n
                        go_wp2_with (fail)
                        go_meet
                        exact ⟨by rw [HBV.out], HZ, HB⟩
                · skip
                  cases on with
                  | false =>
                    by_cases h8 : oth = 0
                    · have z8n : (oth != 0) = false := by simpa using h8
                      have z8 : ((oth : Int) != 0) = false := by rw [bne_eq_false_iff_eq]; omega
                      clear h8
                      by_cases ht : t = 0
                      · have zt : (t != 0) = false := by simpa using ht
                        have HBV := Lib.hid (show badB 4 t oth false = false by unfold badB; rw [z8n, zt]; rfl)
                        clear z8n
                        go_wp2_with (fail)
                        go_meet
                        exact ⟨by rw [HBV.out], HZ, HB⟩
                      · have zt : (t != 0) = true := by simpa using ht
                        have HBV := Lib.hid (show badB 4 t oth false = false by unfold badB; rw [z8n, zt]; rfl)
                        clear z8n
                        go_wp2_with (fail)
                        go_meet
                        exact ⟨by rw [HBV.out], HZ, HB⟩
                    · have z8n : (oth != 0) = true := by simpa using h8
                      have z8 : ((oth : Int) != 0) = true := by rw [bne_iff_ne]; omega
                      clear h8
                      by_cases ht : t = 0
                      · have zt : (t != 0) = false := by simpa using ht
                        have HBV := Lib.hid (show badB 4 t oth false = false by unfold badB; rw [z8n, zt]; rfl)
                        clear z8n
                        go_wp2_with (fail)
                        go_meet
                        exact ⟨by rw [HBV.out], HZ, HB⟩
                      · have zt : (t != 0) = true := by simpa using ht
                        have HBV := Lib.hid (show badB 4 t oth false = false by unfold badB; rw [z8n, zt]; rfl)
                        clear z8n
                        go_wp2_with (fail)
                        go_meet
                        exact ⟨by rw [HBV.out], HZ, HB⟩
                  | true =>
                    by_cases h8 : oth = 0
                    · have z8n : (oth != 0) = false := by simpa using h8
                      have z8 : ((oth : Int) != 0) = false := by rw [bne_eq_false_iff_eq]; omega
                      clear h8
                      by_cases ht : t = 0
                      · have zt : (t != 0) = false := by simpa using ht
                        have HBV := Lib.hid (show badB 4 t oth true = true by unfold badB; rw [z8n, zt]; rfl)
                        clear z8n
                        go_wp2_with (fail)
                        go_meet
                        exact ⟨by rw [HBV.out], HZ, HB⟩
                      · have zt : (t != 0) = true := by simpa using ht
                        have HBV := Lib.hid (show badB 4 t oth true = true by unfold badB; rw [z8n, zt]; rfl)
                        clear z8n
                        go_wp2_with (fail)
                        go_meet
                        exact ⟨by rw [HBV.out], HZ, HB⟩
                    · have z8n : (oth != 0) = true := by simpa using h8
                      have z8 : ((oth : Int) != 0) = true := by rw [bne_iff_ne]; omega
                      clear h8
                      by_cases ht : t = 0
                      · have zt : (t != 0) = false := by simpa using ht
                        have HBV := Lib.hid (show badB 4 t oth true = true by unfold badB; rw [z8n, zt]; rfl)
                        clear z8n
                        go_wp2_with (fail)
                        go_meet
                        exact ⟨by rw [HBV.out], HZ, HB⟩
                      · have zt : (t != 0) = true := by simpa using ht
                        have HBV := Lib.hid (show badB 4 t oth true = true by unfold badB; rw [z8n, zt]; rfl)
                        clear z8n
                        go_wp2_with (fail)
                        go_meet
                        exact ⟨by rw [HBV.out], HZ, HB⟩
                · skip
                  cases on with
                  | false =>
                    by_cases h8 : oth = 0
                    · have z8n : (oth != 0) = false := by simpa using h8
                      have z8 : ((oth : Int) != 0) = false := by rw [bne_eq_false_iff_eq]; omega
                      clear h8
                      by_cases ht : t = 0
                      · have zt : (t != 0) = false := by simpa using ht
                        have HBV := Lib.hid (show badB 6 t oth false = false by unfold badB; rw [z8n, zt]; rfl)
                        clear z8n
                        go_wp2_with (fail)
                        go_meet
                        exact ⟨by rw [HBV.out], HZ, HB⟩
                      · have zt : (t != 0) = true := by simpa using ht
                        have HBV := Lib.hid (show badB 6 t oth false = true by unfold badB; rw [z8n, zt]; rfl)
                        clear z8n
                        go_wp2_with (fail)
                        go_meet
                        exact ⟨by rw [HBV.out], HZ, HB⟩
                    · have z8n : (oth != 0) = true := by simpa using h8
                      have z8 : ((oth : Int) != 0) = true := by rw [bne_iff_ne]; omega
                      clear h8
                      by_cases ht : t = 0
                      · have zt : (t != 0) = false := by simpa using ht
                        have HBV := Lib.hid (show badB 6 t oth false = false by unfold badB; rw [z8n, zt]; rfl)
                        clear z8n
                        go_wp2_with (fail)
                        go_meet
                        exact ⟨by rw [HBV.out], HZ, HB⟩
                      · have zt : (t != 0) = true := by simpa using ht
                        have HBV := Lib.hid (show badB 6 t oth false = true by unfold badB; rw [z8n, zt]; rfl)
                        clear z8n
                        go_wp2_with (fail)
                        go_meet
                        exact ⟨by rw [HBV.out], HZ, HB⟩
                  | true =>
                    by_cases h8 : oth = 0
                    · have z8n : (oth != 0) = false := by simpa using h8
                      have z8 : ((oth : Int) != 0) = false := by rw [bne_eq_false_iff_eq]; omega
                      clear h8
                      by_cases ht : t = 0
                      · have zt : (t != 0) = false := by simpa using ht
                        have HBV := Lib.hid (show badB 6 t oth true = false by unfold badB; rw [z8n, zt]; rfl)
                        clear z8n
                        go_wp2_with (fail)
                        go_meet
                        exact ⟨by rw [HBV.out], HZ, HB⟩
                      · have zt : (t != 0) = true := by simpa using ht
                        have HBV := Lib.hid (show badB 6 t oth true = true by unfold badB; rw [z8n, zt]; rfl)
                        clear z8n
                        go_wp2_with (fail)
                        go_meet
                        exact ⟨by rw [HBV.out], HZ, HB⟩
                    · have z8n : (oth != 0) = true := by simpa using h8
                      have z8 : ((oth : Int) != 0) = true := by rw [bne_iff_ne]; omega
                      clear h8
                      by_cases ht : t = 0
                      · have zt : (t != 0) = false := by simpa using ht
                        have HBV := Lib.hid (show badB 6 t oth true = false by unfold badB; rw [z8n, zt]; rfl)
                        clear z8n
                        go_wp2_with (fail)
                        go_meet
                        exact ⟨by rw [HBV.out], HZ, HB⟩
                      · have zt : (t != 0) = true := by simpa using ht
                        have HBV := Lib.hid (show badB 6 t oth true = true by unfold badB; rw [z8n, zt]; rfl)
                        clear z8n
                        go_wp2_with (fail)
                        go_meet
                        exact ⟨by rw [HBV.out], HZ, HB⟩
              case rest =>
                have ha := HA.out; clear HA
                obtain ⟨rfl, HZ, HB⟩ := hcut
                cases hbad : badB a t oth on with
                | true =>
                  have HV := Lib.hid (HNB.out hbad)
                  clear hbad HNB HYS
                  go_upto_region 12 with (fail)
                  refine wp_region_lit ?_
                  refine wpList_runs rfl (some 100) rfl (kcV zK) wc (by kernel_rfl) ?_
                  refine wpList_store_row rfl 26 (.tmp 6) (.tmp 100) rfl p (kcC zK) rfl rfl 26 (kcC zK) HZ.out kc_info rfl (kcC_one _) ?_
                  go_wp2_with (fail)
                  refine bodyPost_ret_by (results_kc rfl _ _ p zK rfl (setRow_blk HZ.out)) rfl ?_
                  exact ⟨by rw [HV.out]; rfl, below_setRow HB.out (Nat.le_of_eq HP.out.symm) _⟩
                | false =>
                  have HV := Lib.hid (HYS.out hbad)
                  clear HNB HYS
                  go_upto_region 14 with (fail)
                  change Code.wp _ _ _ _ (wc.alloc (.cells (kcC { zK with ke := key }) 26))
                  have hal := (Below.refl wc.heap.size wc).alloc (Nat.le_refl _) (.cells (kcC { zK with ke := key }) 26)
                  replace HB := Lib.hid (HB.out.trans (hal.mono HB.out.size)); have HZ1 := Lib.hid (HZ.out.below hal HZ.out.lt); have HG := Lib.hid (Blk.new wc 26 (kcC { zK with ke := key }))
                  obtain ⟨g, hg⟩ : ∃ g, g = wc.heap.size := ⟨_, rfl⟩
                  have HPG := Lib.hid (show p < g by rw [hg]; exact HZ.out.lt)
                  rw [← hg] at HG ⊢
                  clear hal hg HZ
                  have HZ := HZ1; clear HZ1
                  generalize wc.alloc (.cells (kcC { zK with ke := key }) 26) = v5 at *
                  rcases ha with rfl | rfl | rfl | rfl | rfl | rfl
                  · cases on with
                    | false =>
                      have e0 : v5.cell? ⟨g, 0, none⟩ = some (.int .i64 0) := HG.out.cell 0
                      have f0 := HG.out.free 0
                      have e9 : v5.cell? ⟨g, 9, none⟩ = some (.int .u64 0) := HG.out.cell 9
                      have f9 := HG.out.free 9
                      have e13 : v5.cell? ⟨g, 13, none⟩ = some (.int .i64 0) := HG.out.cell 13
                      have f13 := HG.out.free 13
                      go_upto_region 30 with (fail)
                      have HG2 := Lib.hid (show Blk (((v5.setCell ⟨g, 0, none⟩ (.int .i64 8)).setCell ⟨g, 9, none⟩ (.int .u64 (oth : Int))).setCell ⟨g, 13, none⟩ (.int .i64 1)) g 26 (kcC (cmO 0 t key oth false)) from (((HG.out.put 0 (.int .i64 8)).put 9 (.int .u64 (oth : Int))).put 13 (.int .i64 1)))
                      have HB2 := Lib.hid (((HB.out.setCell (p := ⟨g, 0, none⟩) (show w.heap.size ≤ g by have := HPG.out; rw [← HP.out]; omega) (.int .i64 8)).setCell (p := ⟨g, 9, none⟩) (show w.heap.size ≤ g by have := HPG.out; rw [← HP.out]; omega) (.int .u64 (oth : Int))).setCell (p := ⟨g, 13, none⟩) (show w.heap.size ≤ g by have := HPG.out; rw [← HP.out]; omega) (.int .i64 1))
                      have HZ2 := Lib.hid (((HZ.out.far (p := ⟨g, 0, none⟩) (show p ≠ g by have := HPG.out; omega) (.int .i64 8)).far (p := ⟨g, 9, none⟩) (show p ≠ g by have := HPG.out; omega) (.int .u64 (oth : Int))).far (p := ⟨g, 13, none⟩) (show p ≠ g by have := HPG.out; omega) (.int .i64 1))
                      clear e0 f0 e9 f9 e13 f13 HG HB HZ
                      generalize ((v5.setCell ⟨g, 0, none⟩ (.int .i64 8)).setCell ⟨g, 9, none⟩ (.int .u64 (oth : Int))).setCell ⟨g, 13, none⟩ (.int .i64 1) = v6 at *
                      refine wp_region_lit ?_
                      refine wpList_load_row rfl 26 (.tmp 14) rfl g rfl 26 (kcC (cmO 0 t key oth false)) (0, 0) _ HG2.out Try.underlying26 rfl kc_info ?_
                      refine wpList_store_row rfl 26 (.tmp 6) (.tmp 137) rfl p (kcC (cmO 0 t key oth false)) rfl rfl 26 (kcC zK) HZ2.out kc_info rfl (kcC_one _) ?_
                      go_wp2_with (fail)
                      refine bodyPost_ret_by (results_kc rfl _ _ p (cmO 0 t key oth false) rfl (setRow_blk HZ2.out)) rfl ?_
                      exact ⟨by rw [HV.out]; rfl, below_setRow HB2.out (Nat.le_of_eq HP.out.symm) _⟩
                    | true =>
                      have e0 : v5.cell? ⟨g, 0, none⟩ = some (.int .i64 0) := HG.out.cell 0
                      have f0 := HG.out.free 0
                      have e9 : v5.cell? ⟨g, 9, none⟩ = some (.int .u64 0) := HG.out.cell 9
                      have f9 := HG.out.free 9
                      have e13 : v5.cell? ⟨g, 13, none⟩ = some (.int .i64 0) := HG.out.cell 13
                      have f13 := HG.out.free 13
                      go_upto_region 30 with (fail)
                      have HG2 := Lib.hid (show Blk ((((v5.setCell ⟨g, 0, none⟩ (.int .i64 8)).setCell ⟨g, 9, none⟩ (.int .u64 (oth : Int))).setCell ⟨g, 13, none⟩ (.int .i64 1)).setCell ⟨g, 13, none⟩ (.int .i64 2)) g 26 (kcC (cmO 0 t key oth true)) from ((((HG.out.put 0 (.int .i64 8)).put 9 (.int .u64 (oth : Int))).put 13 (.int .i64 1)).put 13 (.int .i64 2)))
                      have HB2 := Lib.hid ((((HB.out.setCell (p := ⟨g, 0, none⟩) (show w.heap.size ≤ g by have := HPG.out; rw [← HP.out]; omega) (.int .i64 8)).setCell (p := ⟨g, 9, none⟩) (show w.heap.size ≤ g by have := HPG.out; rw [← HP.out]; omega) (.int .u64 (oth : Int))).setCell (p := ⟨g, 13, none⟩) (show w.heap.size ≤ g by have := HPG.out; rw [← HP.out]; omega) (.int .i64 1)).setCell (p := ⟨g, 13, none⟩) (show w.heap.size ≤ g by have := HPG.out; rw [← HP.out]; omega) (.int .i64 2))
                      have HZ2 := Lib.hid ((((HZ.out.far (p := ⟨g, 0, none⟩) (show p ≠ g by have := HPG.out; omega) (.int .i64 8)).far (p := ⟨g, 9, none⟩) (show p ≠ g by have := HPG.out; omega) (.int .u64 (oth : Int))).far (p := ⟨g, 13, none⟩) (show p ≠ g by have := HPG.out; omega) (.int .i64 1)).far (p := ⟨g, 13, none⟩) (show p ≠ g by have := HPG.out; omega) (.int .i64 2))
                      clear e0 f0 e9 f9 e13 f13 HG HB HZ
                      generalize (((v5.setCell ⟨g, 0, none⟩ (.int .i64 8)).setCell ⟨g, 9, none⟩ (.int .u64 (oth : Int))).setCell ⟨g, 13, none⟩ (.int .i64 1)).setCell ⟨g, 13, none⟩ (.int .i64 2) = v6 at *
                      refine wp_region_lit ?_
                      refine wpList_load_row rfl 26 (.tmp 14) rfl g rfl 26 (kcC (cmO 0 t key oth true)) (0, 0) _ HG2.out Try.underlying26 rfl kc_info ?_
                      refine wpList_store_row rfl 26 (.tmp 6) (.tmp 137) rfl p (kcC (cmO 0 t key oth true)) rfl rfl 26 (kcC zK) HZ2.out kc_info rfl (kcC_one _) ?_
                      go_wp2_with (fail)
                      refine bodyPost_ret_by (results_kc rfl _ _ p (cmO 0 t key oth true) rfl (setRow_blk HZ2.out)) rfl ?_
                      exact ⟨by rw [HV.out]; rfl, below_setRow HB2.out (Nat.le_of_eq HP.out.symm) _⟩
                  · have ho : on = false := by cases on; rfl; simp [badB] at hbad
                    subst ho
                    have e0 : v5.cell? ⟨g, 0, none⟩ = some (.int .i64 0) := HG.out.cell 0
                    have f0 := HG.out.free 0
                    have e11 : v5.cell? ⟨g, 11, none⟩ = some (.int .i64 0) := HG.out.cell 11
                    have f11 := HG.out.free 11
                    go_upto_region 30 with (fail)
                    have HG2 := Lib.hid (show Blk ((v5.setCell ⟨g, 0, none⟩ (.int .i64 9)).setCell ⟨g, 11, none⟩ (.int .i64 t)) g 26 (kcC (cmO 1 t key oth false)) from ((HG.out.put 0 (.int .i64 9)).put 11 (.int .i64 t)))
                    have HB2 := Lib.hid ((HB.out.setCell (p := ⟨g, 0, none⟩) (show w.heap.size ≤ g by have := HPG.out; rw [← HP.out]; omega) (.int .i64 9)).setCell (p := ⟨g, 11, none⟩) (show w.heap.size ≤ g by have := HPG.out; rw [← HP.out]; omega) (.int .i64 t))
                    have HZ2 := Lib.hid ((HZ.out.far (p := ⟨g, 0, none⟩) (show p ≠ g by have := HPG.out; omega) (.int .i64 9)).far (p := ⟨g, 11, none⟩) (show p ≠ g by have := HPG.out; omega) (.int .i64 t))
                    clear e0 f0 e11 f11 HG HB HZ
                    generalize (v5.setCell ⟨g, 0, none⟩ (.int .i64 9)).setCell ⟨g, 11, none⟩ (.int .i64 t) = v6 at *
                    refine wp_region_lit ?_
                    refine wpList_load_row rfl 26 (.tmp 14) rfl g rfl 26 (kcC (cmO 1 t key oth false)) (0, 0) _ HG2.out Try.underlying26 rfl kc_info ?_
                    refine wpList_store_row rfl 26 (.tmp 6) (.tmp 137) rfl p (kcC (cmO 1 t key oth false)) rfl rfl 26 (kcC zK) HZ2.out kc_info rfl (kcC_one _) ?_
                    go_wp2_with (fail)
                    refine bodyPost_ret_by (results_kc rfl _ _ p (cmO 1 t key oth false) rfl (setRow_blk HZ2.out)) rfl ?_
                    exact ⟨by rw [HV.out]; rfl, below_setRow HB2.out (Nat.le_of_eq HP.out.symm) _⟩
                  · have ho : on = false := by cases on; rfl; simp [badB] at hbad
                    subst ho
                    have e0 : v5.cell? ⟨g, 0, none⟩ = some (.int .i64 0) := HG.out.cell 0
                    have f0 := HG.out.free 0
                    have e11 : v5.cell? ⟨g, 11, none⟩ = some (.int .i64 0) := HG.out.cell 11
                    have f11 := HG.out.free 11
                    go_upto_region 30 with (fail)
                    have HG2 := Lib.hid (show Blk ((v5.setCell ⟨g, 0, none⟩ (.int .i64 10)).setCell ⟨g, 11, none⟩ (.int .i64 t)) g 26 (kcC (cmO 2 t key oth false)) from ((HG.out.put 0 (.int .i64 10)).put 11 (.int .i64 t)))
                    have HB2 := Lib.hid ((HB.out.setCell (p := ⟨g, 0, none⟩) (show w.heap.size ≤ g by have := HPG.out; rw [← HP.out]; omega) (.int .i64 10)).setCell (p := ⟨g, 11, none⟩) (show w.heap.size ≤ g by have := HPG.out; rw [← HP.out]; omega) (.int .i64 t))
                    have HZ2 := Lib.hid ((HZ.out.far (p := ⟨g, 0, none⟩) (show p ≠ g by have := HPG.out; omega) (.int .i64 10)).far (p := ⟨g, 11, none⟩) (show p ≠ g by have := HPG.out; omega) (.int .i64 t))
                    clear e0 f0 e11 f11 HG HB HZ
                    generalize (v5.setCell ⟨g, 0, none⟩ (.int .i64 10)).setCell ⟨g, 11, none⟩ (.int .i64 t) = v6 at *
                    refine wp_region_lit ?_
                    refine wpList_load_row rfl 26 (.tmp 14) rfl g rfl 26 (kcC (cmO 2 t key oth false)) (0, 0) _ HG2.out Try.underlying26 rfl kc_info ?_
                    refine wpList_store_row rfl 26 (.tmp 6) (.tmp 137) rfl p (kcC (cmO 2 t key oth false)) rfl rfl 26 (kcC zK) HZ2.out kc_info rfl (kcC_one _) ?_
                    go_wp2_with (fail)
                    refine bodyPost_ret_by (results_kc rfl _ _ p (cmO 2 t key oth false) rfl (setRow_blk HZ2.out)) rfl ?_
                    exact ⟨by rw [HV.out]; rfl, below_setRow HB2.out (Nat.le_of_eq HP.out.symm) _⟩
                  · have ho : on = false := by cases on; rfl; simp [badB] at hbad
                    subst ho
                    have e0 : v5.cell? ⟨g, 0, none⟩ = some (.int .i64 0) := HG.out.cell 0
                    have f0 := HG.out.free 0
                    go_upto_region 30 with (fail)
                    have HG2 := Lib.hid (show Blk (v5.setCell ⟨g, 0, none⟩ (.int .i64 11)) g 26 (kcC (cmO 3 t key oth false)) from (HG.out.put 0 (.int .i64 11)))
                    have HB2 := Lib.hid (HB.out.setCell (p := ⟨g, 0, none⟩) (show w.heap.size ≤ g by have := HPG.out; rw [← HP.out]; omega) (.int .i64 11))
                    have HZ2 := Lib.hid (HZ.out.far (p := ⟨g, 0, none⟩) (show p ≠ g by have := HPG.out; omega) (.int .i64 11))
                    clear e0 f0 HG HB HZ
                    generalize v5.setCell ⟨g, 0, none⟩ (.int .i64 11) = v6 at *
                    refine wp_region_lit ?_
                    refine wpList_load_row rfl 26 (.tmp 14) rfl g rfl 26 (kcC (cmO 3 t key oth false)) (0, 0) _ HG2.out Try.underlying26 rfl kc_info ?_
                    refine wpList_store_row rfl 26 (.tmp 6) (.tmp 137) rfl p (kcC (cmO 3 t key oth false)) rfl rfl 26 (kcC zK) HZ2.out kc_info rfl (kcC_one _) ?_
                    go_wp2_with (fail)
                    refine bodyPost_ret_by (results_kc rfl _ _ p (cmO 3 t key oth false) rfl (setRow_blk HZ2.out)) rfl ?_
                    exact ⟨by rw [HV.out]; rfl, below_setRow HB2.out (Nat.le_of_eq HP.out.symm) _⟩
                  · have ho : on = false := by cases on; rfl; simp [badB] at hbad
                    subst ho
                    have e0 : v5.cell? ⟨g, 0, none⟩ = some (.int .i64 0) := HG.out.cell 0
                    have f0 := HG.out.free 0
                    have e10 : v5.cell? ⟨g, 10, none⟩ = some (.int .u64 0) := HG.out.cell 10
                    have f10 := HG.out.free 10
                    have e11 : v5.cell? ⟨g, 11, none⟩ = some (.int .i64 0) := HG.out.cell 11
                    have f11 := HG.out.free 11
                    go_upto_region 30 with (fail)
                    have HG2 := Lib.hid (show Blk (((v5.setCell ⟨g, 0, none⟩ (.int .i64 12)).setCell ⟨g, 11, none⟩ (.int .i64 t)).setCell ⟨g, 10, none⟩ (.int .u64 (oth : Int))) g 26 (kcC (cmO 4 t key oth false)) from (((HG.out.put 0 (.int .i64 12)).put 11 (.int .i64 t)).put 10 (.int .u64 (oth : Int))))
                    have HB2 := Lib.hid (((HB.out.setCell (p := ⟨g, 0, none⟩) (show w.heap.size ≤ g by have := HPG.out; rw [← HP.out]; omega) (.int .i64 12)).setCell (p := ⟨g, 11, none⟩) (show w.heap.size ≤ g by have := HPG.out; rw [← HP.out]; omega) (.int .i64 t)).setCell (p := ⟨g, 10, none⟩) (show w.heap.size ≤ g by have := HPG.out; rw [← HP.out]; omega) (.int .u64 (oth : Int)))
                    have HZ2 := Lib.hid (((HZ.out.far (p := ⟨g, 0, none⟩) (show p ≠ g by have := HPG.out; omega) (.int .i64 12)).far (p := ⟨g, 11, none⟩) (show p ≠ g by have := HPG.out; omega) (.int .i64 t)).far (p := ⟨g, 10, none⟩) (show p ≠ g by have := HPG.out; omega) (.int .u64 (oth : Int)))
                    clear e0 f0 e10 f10 e11 f11 HG HB HZ
                    generalize ((v5.setCell ⟨g, 0, none⟩ (.int .i64 12)).setCell ⟨g, 11, none⟩ (.int .i64 t)).setCell ⟨g, 10, none⟩ (.int .u64 (oth : Int)) = v6 at *
                    refine wp_region_lit ?_
                    refine wpList_load_row rfl 26 (.tmp 14) rfl g rfl 26 (kcC (cmO 4 t key oth false)) (0, 0) _ HG2.out Try.underlying26 rfl kc_info ?_
                    refine wpList_store_row rfl 26 (.tmp 6) (.tmp 137) rfl p (kcC (cmO 4 t key oth false)) rfl rfl 26 (kcC zK) HZ2.out kc_info rfl (kcC_one _) ?_
                    go_wp2_with (fail)
                    refine bodyPost_ret_by (results_kc rfl _ _ p (cmO 4 t key oth false) rfl (setRow_blk HZ2.out)) rfl ?_
                    exact ⟨by rw [HV.out]; rfl, below_setRow HB2.out (Nat.le_of_eq HP.out.symm) _⟩
                  · cases on with
                    | false =>
                      have e0 : v5.cell? ⟨g, 0, none⟩ = some (.int .i64 0) := HG.out.cell 0
                      have f0 := HG.out.free 0
                      have e8 : v5.cell? ⟨g, 8, none⟩ = some (.int .u64 (key : Int)) := HG.out.cell 8
                      have f8 := HG.out.free 8
                      have e9 : v5.cell? ⟨g, 9, none⟩ = some (.int .u64 0) := HG.out.cell 9
                      have f9 := HG.out.free 9
                      have e12 : v5.cell? ⟨g, 12, none⟩ = some (.bool false) := HG.out.cell 12
                      have f12 := HG.out.free 12
                      have e13 : v5.cell? ⟨g, 13, none⟩ = some (.int .i64 0) := HG.out.cell 13
                      have f13 := HG.out.free 13
                      go_upto_region 30 with (fail)
                      have HG2 := Lib.hid (show Blk (((((v5.setCell ⟨g, 0, none⟩ (.int .i64 8)).setCell ⟨g, 9, none⟩ (.int .u64 (oth : Int))).setCell ⟨g, 13, none⟩ (.int .i64 1)).setCell ⟨g, 12, none⟩ (.bool true)).setCell ⟨g, 8, none⟩ (.int .u64 0)) g 26 (kcC (cmO 6 t key oth false)) from (((((HG.out.put 0 (.int .i64 8)).put 9 (.int .u64 (oth : Int))).put 13 (.int .i64 1)).put 12 (.bool true)).put 8 (.int .u64 0)))
                      have HB2 := Lib.hid (((((HB.out.setCell (p := ⟨g, 0, none⟩) (show w.heap.size ≤ g by have := HPG.out; rw [← HP.out]; omega) (.int .i64 8)).setCell (p := ⟨g, 9, none⟩) (show w.heap.size ≤ g by have := HPG.out; rw [← HP.out]; omega) (.int .u64 (oth : Int))).setCell (p := ⟨g, 13, none⟩) (show w.heap.size ≤ g by have := HPG.out; rw [← HP.out]; omega) (.int .i64 1)).setCell (p := ⟨g, 12, none⟩) (show w.heap.size ≤ g by have := HPG.out; rw [← HP.out]; omega) (.bool true)).setCell (p := ⟨g, 8, none⟩) (show w.heap.size ≤ g by have := HPG.out; rw [← HP.out]; omega) (.int .u64 0))
                      have HZ2 := Lib.hid (((((HZ.out.far (p := ⟨g, 0, none⟩) (show p ≠ g by have := HPG.out; omega) (.int .i64 8)).far (p := ⟨g, 9, none⟩) (show p ≠ g by have := HPG.out; omega) (.int .u64 (oth : Int))).far (p := ⟨g, 13, none⟩) (show p ≠ g by have := HPG.out; omega) (.int .i64 1)).far (p := ⟨g, 12, none⟩) (show p ≠ g by have := HPG.out; omega) (.bool true)).far (p := ⟨g, 8, none⟩) (show p ≠ g by have := HPG.out; omega) (.int .u64 0))
                      clear e0 f0 e8 f8 e9 f9 e12 f12 e13 f13 HG HB HZ
                      generalize ((((v5.setCell ⟨g, 0, none⟩ (.int .i64 8)).setCell ⟨g, 9, none⟩ (.int .u64 (oth : Int))).setCell ⟨g, 13, none⟩ (.int .i64 1)).setCell ⟨g, 12, none⟩ (.bool true)).setCell ⟨g, 8, none⟩ (.int .u64 0) = v6 at *
                      refine wp_region_lit ?_
                      refine wpList_load_row rfl 26 (.tmp 14) rfl g rfl 26 (kcC (cmO 6 t key oth false)) (0, 0) _ HG2.out Try.underlying26 rfl kc_info ?_
                      refine wpList_store_row rfl 26 (.tmp 6) (.tmp 137) rfl p (kcC (cmO 6 t key oth false)) rfl rfl 26 (kcC zK) HZ2.out kc_info rfl (kcC_one _) ?_
                      go_wp2_with (fail)
                      refine bodyPost_ret_by (results_kc rfl _ _ p (cmO 6 t key oth false) rfl (setRow_blk HZ2.out)) rfl ?_
                      exact ⟨by rw [HV.out]; rfl, below_setRow HB2.out (Nat.le_of_eq HP.out.symm) _⟩
                    | true =>
                      have e0 : v5.cell? ⟨g, 0, none⟩ = some (.int .i64 0) := HG.out.cell 0
                      have f0 := HG.out.free 0
                      have e8 : v5.cell? ⟨g, 8, none⟩ = some (.int .u64 (key : Int)) := HG.out.cell 8
                      have f8 := HG.out.free 8
                      have e9 : v5.cell? ⟨g, 9, none⟩ = some (.int .u64 0) := HG.out.cell 9
                      have f9 := HG.out.free 9
                      have e12 : v5.cell? ⟨g, 12, none⟩ = some (.bool false) := HG.out.cell 12
                      have f12 := HG.out.free 12
                      have e13 : v5.cell? ⟨g, 13, none⟩ = some (.int .i64 0) := HG.out.cell 13
                      have f13 := HG.out.free 13
                      go_upto_region 30 with (fail)
                      have HG2 := Lib.hid (show Blk ((((((v5.setCell ⟨g, 0, none⟩ (.int .i64 8)).setCell ⟨g, 9, none⟩ (.int .u64 (oth : Int))).setCell ⟨g, 13, none⟩ (.int .i64 1)).setCell ⟨g, 13, none⟩ (.int .i64 2)).setCell ⟨g, 12, none⟩ (.bool true)).setCell ⟨g, 8, none⟩ (.int .u64 0)) g 26 (kcC (cmO 6 t key oth true)) from ((((((HG.out.put 0 (.int .i64 8)).put 9 (.int .u64 (oth : Int))).put 13 (.int .i64 1)).put 13 (.int .i64 2)).put 12 (.bool true)).put 8 (.int .u64 0)))
                      have HB2 := Lib.hid ((((((HB.out.setCell (p := ⟨g, 0, none⟩) (show w.heap.size ≤ g by have := HPG.out; rw [← HP.out]; omega) (.int .i64 8)).setCell (p := ⟨g, 9, none⟩) (show w.heap.size ≤ g by have := HPG.out; rw [← HP.out]; omega) (.int .u64 (oth : Int))).setCell (p := ⟨g, 13, none⟩) (show w.heap.size ≤ g by have := HPG.out; rw [← HP.out]; omega) (.int .i64 1)).setCell (p := ⟨g, 13, none⟩) (show w.heap.size ≤ g by have := HPG.out; rw [← HP.out]; omega) (.int .i64 2)).setCell (p := ⟨g, 12, none⟩) (show w.heap.size ≤ g by have := HPG.out; rw [← HP.out]; omega) (.bool true)).setCell (p := ⟨g, 8, none⟩) (show w.heap.size ≤ g by have := HPG.out; rw [← HP.out]; omega) (.int .u64 0))
                      have HZ2 := Lib.hid ((((((HZ.out.far (p := ⟨g, 0, none⟩) (show p ≠ g by have := HPG.out; omega) (.int .i64 8)).far (p := ⟨g, 9, none⟩) (show p ≠ g by have := HPG.out; omega) (.int .u64 (oth : Int))).far (p := ⟨g, 13, none⟩) (show p ≠ g by have := HPG.out; omega) (.int .i64 1)).far (p := ⟨g, 13, none⟩) (show p ≠ g by have := HPG.out; omega) (.int .i64 2)).far (p := ⟨g, 12, none⟩) (show p ≠ g by have := HPG.out; omega) (.bool true)).far (p := ⟨g, 8, none⟩) (show p ≠ g by have := HPG.out; omega) (.int .u64 0))
                      clear e0 f0 e8 f8 e9 f9 e12 f12 e13 f13 HG HB HZ
                      generalize (((((v5.setCell ⟨g, 0, none⟩ (.int .i64 8)).setCell ⟨g, 9, none⟩ (.int .u64 (oth : Int))).setCell ⟨g, 13, none⟩ (.int .i64 1)).setCell ⟨g, 13, none⟩ (.int .i64 2)).setCell ⟨g, 12, none⟩ (.bool true)).setCell ⟨g, 8, none⟩ (.int .u64 0) = v6 at *
                      refine wp_region_lit ?_
                      refine wpList_load_row rfl 26 (.tmp 14) rfl g rfl 26 (kcC (cmO 6 t key oth true)) (0, 0) _ HG2.out Try.underlying26 rfl kc_info ?_
                      refine wpList_store_row rfl 26 (.tmp 6) (.tmp 137) rfl p (kcC (cmO 6 t key oth true)) rfl rfl 26 (kcC zK) HZ2.out kc_info rfl (kcC_one _) ?_
                      go_wp2_with (fail)
                      refine bodyPost_ret_by (results_kc rfl _ _ p (cmO 6 t key oth true) rfl (setRow_blk HZ2.out)) rfl ?_
                      exact ⟨by rw [HV.out]; rfl, below_setRow HB2.out (Nat.le_of_eq HP.out.symm) _⟩
      · have HV := Lib.hid (ch_head (t := t) (show ¬ headOk a s from fun h => h6 h.2.2.1))
        clear h24
        go_enter Try.func8, Try.ntmps8
        go_upto_region 1 with (fail)
        change Code.wp _ _ _ _ (w.alloc (.cells (kcC zK) 26))
        generalize w.alloc (.cells (kcC zK) 26) = v0 at *
        obtain ⟨p, hp⟩ : ∃ p, p = w.heap.size := ⟨_, rfl⟩
        have HP := Lib.hid hp
        rw [← hp] at HR0 ⊢
        clear hp
        go_upto_region 2 with (fail)
        refine wp_region_lit ?_
        refine wpList_runs rfl (some 30) rfl (kcV zK) v0 (by kernel_rfl) ?_
        refine wpList_store_row rfl 26 (.tmp 6) (.tmp 30) rfl p (kcC zK) rfl rfl 26 (kcC zK) HR0.out kc_info rfl (kcC_one _) ?_
        go_wp2_with (fail)
        refine bodyPost_ret_by (results_kc rfl _ _ p zK rfl (setRow_blk HR0.out)) rfl ?_
        exact ⟨by rw [HV.out]; rfl, below_setRow HB0.out (Nat.le_of_eq HP.out.symm) _⟩
    · have HV := Lib.hid (ch_head (t := t) (show ¬ headOk a s from fun h => h0 h.2.1))
      clear h24
      go_enter Try.func8, Try.ntmps8
      go_upto_region 1 with (fail)
      change Code.wp _ _ _ _ (w.alloc (.cells (kcC zK) 26))
      generalize w.alloc (.cells (kcC zK) 26) = v0 at *
      obtain ⟨p, hp⟩ : ∃ p, p = w.heap.size := ⟨_, rfl⟩
      have HP := Lib.hid hp
      rw [← hp] at HR0 ⊢
      clear hp
      go_upto_region 2 with (fail)
      refine wp_region_lit ?_
      refine wpList_runs rfl (some 30) rfl (kcV zK) v0 (by kernel_rfl) ?_
      refine wpList_store_row rfl 26 (.tmp 6) (.tmp 30) rfl p (kcC zK) rfl rfl 26 (kcC zK) HR0.out kc_info rfl (kcC_one _) ?_
      go_wp2_with (fail)
      refine bodyPost_ret_by (results_kc rfl _ _ p zK rfl (setRow_blk HR0.out)) rfl ?_
      exact ⟨by rw [HV.out]; rfl, below_setRow HB0.out (Nat.le_of_eq HP.out.symm) _⟩
  · have q24 : ((s.size : Int) != 24) = true := by rw [bne_iff_ne]; omega
    have HV := Lib.hid (ch_head (a := a) (t := t) (show ¬ headOk a s from fun h => h24 h.1))
    clear h24
    go_enter Try.func8, Try.ntmps8
    go_upto_region 1 with (fail)
    change Code.wp _ _ _ _ (w.alloc (.cells (kcC zK) 26))
    generalize w.alloc (.cells (kcC zK) 26) = v0 at *
    obtain ⟨p, hp⟩ : ∃ p, p = w.heap.size := ⟨_, rfl⟩
    have HP := Lib.hid hp
    rw [← hp] at HR0 ⊢
    clear hp
    go_upto_region 2 with (fail)
    refine wp_region_lit ?_
    refine wpList_runs rfl (some 30) rfl (kcV zK) v0 (by kernel_rfl) ?_
    refine wpList_store_row rfl 26 (.tmp 6) (.tmp 30) rfl p (kcC zK) rfl rfl 26 (kcC zK) HR0.out kc_info rfl (kcC_one _) ?_
    go_wp2_with (fail)
    refine bodyPost_ret_by (results_kc rfl _ _ p zK rfl (setRow_blk HR0.out)) rfl ?_
    exact ⟨by rw [HV.out]; rfl, below_setRow HB0.out (Nat.le_of_eq HP.out.symm) _⟩
end Go.Proofs.Ytdggipgieanpeaa
