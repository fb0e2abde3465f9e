/- One registration taken out of a row in place: slices.Delete. -/
import Derived.Test.YtgekadfkokkapaaDoorReI
namespace Go.Proofs.YtgekadfkokkapaaDoor
open Go.RowKit
theorem size57 : (Tryd.prog.info? 57).map (·.size) = some 2 := by kernel_rfl
/-- 'append(s[:i], s[i+1:]...)' over s's own row. -/
theorem step_shift {ops : Array Oper} {o : Oper} {a : Act} {w : World} {K : Act → World → Prop} {Q : Exit → Act → World → Prop} {E : Prop} (hgd : o.guard = none) (s x : Operand)
    (ho : o.op = .call { callee := .builtin .append, args := #[s, x], argTypes := #[22, 22] }) (g c : Nat) (l : List Rg) (i : Nat) (hi : i < l.length) (h : RowR w g c l)
    (hs : a.eval s = .slice (some ⟨g, 0, none⟩) i c) (A : Addr) (cc : Nat) (hx : a.eval x = .slice (some A) (l.length - (i + 1)) cc) (hA : 0 < l.length - (i + 1) → A = ⟨g, (i + 1) * 2, none⟩)
    (hK : ∀ w', RowR w' g c (l.take i ++ l.drop (i + 1) ++ l.drop (l.length - 1)) → Only (fun k => k = g) w w' → K (a.put o.dst (.slice (some ⟨g, 0, none⟩) (l.length - 1) c)) w') :
    if Region.wanted o (yielded ops a.tmps) = true then Oper.wp Tryd.prog o a w K Q else E := by
  have hw : Region.wanted o (yielded ops a.tmps) = true := by simp [Region.wanted, hgd]
  rw [if_pos hw]
  obtain ⟨i0, hi0, hz0, hz1, hz2⟩ := info_parts infoReg
  obtain ⟨junk, hb, hl, hc⟩ := h
  have e := rgCells_length l
  have ed : (rgCells (l.drop (i + 1))).length = (l.length - (i + 1)) * 2 := by rw [rgCells_length, List.length_drop]
  have hnews : ∀ j u, (rgCells (l.drop (i + 1)))[j]? = some u → w.cell? (A.add j) = some u := by
    intro j u hu
    have hj := (List.getElem?_eq_some_iff.1 hu).1
    rw [hA (by omega), Addr.add_lit, hb.cell]
    rw [← rgCells_drop, List.getElem?_drop] at hu
    have hq : ((rgCells l ++ junk).toArray)[(i + 1) * 2 + j]? = (rgCells l)[(i + 1) * 2 + j]? := by
      rw [List.getElem?_toArray, List.getElem?_append_left (by omega)]
    exact hq.trans hu
  have hr := run_append_room (P := Tryd.prog) w 22 o.type 57 i0 Tryd.underlying22 hi0 g i c _ hb A (l.length - (i + 1)) cc (rgCells (l.drop (i + 1))) (by rw [ed, hz1]) hnews rgCells_one (by omega) (by rw [ed, hz1]; simp; omega)
  rw [hz1, show i + (l.length - (i + 1)) = l.length - 1 by omega] at hr
  have hR := RowR.laid _ hb junk rfl hl hc i (l.drop (i + 1)) (by rw [List.length_drop]; omega)
  rw [List.length_drop, show i + (l.length - (i + 1)) = l.length - 1 by omega] at hR
  unfold Oper.wp execOp
  simp only [ho, resolve, invoke, builtin, Sem.run_bind, Sem.run_pure, Result.andThen_ok, List.map_toArray, List.map_cons, List.map_nil, hs, hx, hr]
  exact hK _ hR (setRow_only _ _ _)
set_option maxRecDepth 100000 in
set_option maxHeartbeats 2000000 in
theorem delete_any (w : World) (g c : Nat) (l : List Rg) (i : Nat) (hi : i < l.length) (h : RowR w g c l) (hm : l.length ≤ 1000) :
    Calls Tryd.prog 80 #[.slice (some ⟨g, 0, none⟩) l.length c, .int .i64 i, .int .i64 ((i : Int) + 1)] w fun e w' => e = .returned (.slice (some ⟨g, 0, none⟩) (l.length - 1) c) ∧ RowR w' g c (l.take i ++ l.drop (i + 1)) ∧ Only (fun k => k = g) w w' := by
  have hle := h.le
  have hii : (i : Int) < l.length := by omega
  have hic : i ≤ c := by omega
  have hi1 : i + 1 ≤ l.length := hi
  have hi2 : (i : Int) + 1 ≤ l.length := by omega
  have hi3 : 0 ≤ (i : Int) + 1 := by omega
  have hne : ((i : Int) == (i : Int) + 1) = false := by rw [int_beq]; exact decide_eq_false (by omega)
  obtain ⟨Ad, hAd, hA⟩ : ∃ Ad : Addr, (if c = i + 1 then some (⟨g, 0, none⟩ : Addr) else some ⟨g, (i + 1) * 2, none⟩) = some Ad ∧ (0 < l.length - (i + 1) → Ad = ⟨g, (i + 1) * 2, none⟩) := by
    by_cases h : c = i + 1
    · exact ⟨_, by rw [if_pos h], fun h' => by omega⟩
    · exact ⟨_, by rw [if_neg h], fun _ => rfl⟩
  have HR := Lib.hid h; have HA := Lib.hid hA
  clear h hA
  go_enter Tryd.func80, Tryd.ntmps80
  go_upto_region 5 with (fail)
  go_region_law (first
    | (refine step_shift (by rfl) (.tmp 22) (.tmp 25) (by rfl) g c l i hi HR.out (by rfl) Ad _ (by rfl) HA.out ?_
       intro w5 hr5 ho5
       have R5 := Lib.hid hr5; have O5 := Lib.hid ((Only.refl (fun k => k = g) w).drew.trans ho5 (fun _ hk => .inl hk))
       clear hr5 ho5)
    | fail)
  all_goals (
    have q1 : l.length - 1 ≤ l.length := by omega
    have q2 : ¬ c = l.length - 1 := by omega
    have q3 : l.length - (l.length - 1) = 1 := by omega
    have R5b : Hid ((l.take i ++ l.drop (i + 1) ++ l.drop (l.length - 1)).length = l.length) := by
      show (l.take i ++ l.drop (i + 1) ++ l.drop (l.length - 1)).length = l.length
      simp only [List.length_append, List.length_take, List.length_drop]; omega
    obtain ⟨w6, hcl, hr6, ho6⟩ := run_clear_rgs w5 0 g c (c - (l.length - 1)) _ R5.out (l.length - 1) 1 (by omega) (by rw [R5b.out]; omega)
    have R6 := Lib.hid hr6; have O6 := Lib.hid (O5.out.trans ho6 (fun _ hk => .inl hk)); clear hr6 ho6
    go_wp2_with (fail)
    go_ret
    refine ⟨rfl, ?_, O6.out⟩
    have := R6.out.take (l.length - 1)
    have e1 : (l.take i ++ l.drop (i + 1)).length = l.length - 1 := by simp only [List.length_append, List.length_take, List.length_drop]; omega
    rw [List.take_append_of_le_length (by rw [List.length_take, R5b.out]; omega), List.take_take, Nat.min_self, List.take_append_of_le_length (by rw [e1]; exact Nat.le_refl _), ← e1, List.take_length] at this
    exact this)
end Go.Proofs.YtgekadfkokkapaaDoor
