/- The small functions of the code's tables. -/
import Derived.Test.YtaachlijpgmjeaaDoorCdT
import Derived.Test.YtaachlijpgmjeaaDoorAsk
import Derived.Laws.ResultCell
import Derived.Laws.CopyOwn
namespace Go.Proofs.YtaachlijpgmjeaaDoor
open Go.RowKit
theorem forms_info : (Tryd.prog.info? 63).map (·.size) = some formsA.size := by kernel_rfl
theorem numbers_info : (Tryd.prog.info? 62).map (·.size) = some numbersA.size := by kernel_rfl
theorem form_info : (Tryd.prog.info? 51).map (·.size) = some 16 := by kernel_rfl
/-- What a function of a form and a flag answers. -/
theorem results_form {fn : Func} {p u : Tmp} (h : fn.results = #[.cell p 51, .tmp u]) (tmps : Array Value) (w : World) (g : Nat) (f : Fm) (hp : tmps.getD p undef = .pointer (some ⟨g, 0, none⟩)) (hg : Blk w g 51 (fmC f)) :
    (results fn tmps).run Tryd.prog w = .ok (.tuple #[fmV f, tmps.getD u undef]) w := by
  rw [results_cell_tmp h, hp]
  have := run_loadVar_row (P := Tryd.prog) w g 51 51 (fmC f) (0, 0) _ hg Tryd.underlying51 rfl form_info
  simp [asAddr, this, Result.andThen]
theorem fm_apart {i k : Nat} (hi : i < 14) (hk : k < 14) (h : ((fm k).first : Int) = ((fm i).first : Int)) : k = i := by
  have : ∀ i, i < 14 → ∀ k, k < 14 → (fm k).first = (fm i).first → k = i := by decide +kernel
  exact this i hi k hk (by omega)
theorem fmI_yes {b : Int} {i : Nat} (h : fmI b = some i) : i < 14 ∧ ((fm i).first : Int) = b := by
  have h1 := List.find?_some h
  have h2 := List.mem_of_find?_eq_some h
  exact ⟨List.mem_range.1 h2, by simpa using h1⟩
theorem fmI_none {b : Int} (h : fmI b = none) (k : Nat) (hk : k < 14) : ((fm k).first : Int) ≠ b := by
  have := List.find?_eq_none.1 h k (List.mem_range.2 hk)
  simpa using this
theorem fmC_one (f : Fm) : (fmC f).all (·.oneCell') = true := by simp [fmC, Value.oneCell']
theorem wpList_runs {P : Program} {ops : Array Oper} {rest : List Oper} {o : Oper} {a : Act} {w : World} {Q : Exit → Act → World → Prop} (hg : o.guard = none) (dst : Option Tmp) (hdst : o.dst = dst)
    (v : Value) (w' : World) (hrun : (execOp a.eval o).run P w = .ok (.value v) w')
    (h : wpList P ops Q rest (a.put dst v) w') : wpList P ops Q (o :: rest) a w :=
  wpList_plain hg fun K hK => by
    subst hdst
    unfold Oper.wp
    rw [hrun, Oper.upon_value]
    exact hK _ _ h
/-- What formOf answers. -/
def foV (o : Option Nat) : Value := match o with
  | some i => .tuple #[fmV (fm i), .bool true]
  | none => .tuple #[fmV zF, .bool false]
set_option maxRecDepth 100000 in
theorem formOf_any (b : Int) (w : World) (ht : FT w) : Calls Tryd.prog 21 #[.int .i64 b] w fun e w' => e = .returned (foV (fmI b)) ∧ Below w.heap.size w w' := by
  have HB0 := Lib.hid (((Below.refl w.heap.size w).alloc (Nat.le_refl _) (.cells (fmC zF) 51)))
  have HR0 := Lib.hid (Blk.new w 51 (fmC zF))
  have HT := Lib.hid ht
  have HW : Hid (∀ k, k < 14 → ((fm k).first : Int) = b → fmI b = some k) := Lib.hid (fun k hk h => by
    cases hf : fmI b with
    | none => exact absurd h (fmI_none hf k hk)
    | some i => rw [fm_apart (fmI_yes hf).1 hk (h.trans (fmI_yes hf).2.symm)])
  have HN : Hid ((∀ k, k < 14 → ((fm k).first : Int) ≠ b) → fmI b = none) := Lib.hid (fun h => by
    cases hf : fmI b with
    | none => rfl
    | some i => exact absurd (fmI_yes hf).2 (h i (fmI_yes hf).1))
  clear ht
  go_enter Tryd.func21, Tryd.ntmps21
  go_upto_region 1 with (fail)
  change Code.wp _ _ _ _ (w.alloc (.cells (fmC zF) 51))
  have HT1 := Lib.hid (ft HT HB0)
  generalize w.alloc (.cells (fmC zF) 51) = v0 at *
  obtain ⟨p, hp⟩ : ∃ p, p = w.heap.size := ⟨_, rfl⟩
  have HP := Lib.hid hp
  rw [← hp] at HR0 ⊢
  clear hp
  refine wp_region_lit ?_
  refine wpList_load_cells rfl 63 (.global 1) rfl 1 0 rfl formsA (fun j v hj => by rw [Nat.zero_add]; exact HT1.out.forms j v hj) (.array 14 51) Tryd.underlying63 rfl forms_info ?_
  go_wp2_with (fail)
  go_loopw [7] (fun i wr => ∃ k : Nat, k ≤ 14 ∧ i = .int .i64 k ∧ Hid (Below w.heap.size w wr) ∧ Hid (Blk wr p 51 (fmC zF)) ∧ Hid (∀ j, j < k → ((fm j).first : Int) ≠ b)) (fun i _ => 14 - (intOf i).toNat)
  case atStart => exact ⟨0, by decide, rfl, HB0, HR0, Lib.hid (fun j h => by omega)⟩
  case round =>
    obtain ⟨k, hk, rfl, HB, HR, HJ⟩ := hrel
    by_cases hk14 : (k : Int) < 14
    · have hix := index_form wr k (by omega)
      cases q : (((fm k).first : Int) == b) with
      | true =>
        have HV := Lib.hid (HW.out k (by omega) (by simpa using q))
        go_upto_region 4 with (fail)
        change Code.wp _ _ _ _ (wr.alloc (.cells (fmC (fm k)) 51))
        have hal := (Below.refl wr.heap.size wr).alloc (Nat.le_refl _) (.cells (fmC (fm k)) 51)
        have HR1 := Lib.hid (HR.out.below hal HR.out.lt); have HB1 := Lib.hid (HB.out.trans (hal.mono HB.out.size)); have HF := Lib.hid (Blk.new wr 51 (fmC (fm k)))
        obtain ⟨g, hg⟩ : ∃ g, g = wr.heap.size := ⟨_, rfl⟩
        have HGL := Lib.hid (show p < g by rw [hg]; exact HR.out.lt)
        rw [← hg] at HF ⊢
        clear hal hg
        generalize wr.alloc (.cells (fmC (fm k)) 51) = v1 at *
        have c0 : v1.cell? ⟨g, 0, none⟩ = some (.int .i64 ((fm k).first : Int)) := HF.out.cell 0
        go_upto_region 5 with (fail)
        refine wp_region_lit ?_
        refine wpList_load_row rfl 51 (.tmp 5) rfl g rfl 51 (fmC (fm k)) (0, 0) _ HF.out Tryd.underlying51 rfl form_info ?_
        refine wpList_store_row rfl 51 (.tmp 2) (.tmp 14) rfl p (fmC (fm k)) rfl rfl 51 (fmC zF) HR1.out form_info rfl (fmC_one _) ?_
        go_wp2_with (fail)
        refine bodyPost_ret_by (results_form rfl _ _ p (fm k) rfl (setRow_blk HR1.out)) rfl ?_
        exact ⟨by rw [HV.out]; rfl, below_setRow HB1.out (Nat.le_of_eq HP.out.symm) _⟩
      | false =>
        have HJ1 := Lib.hid (show ∀ j, j < k + 1 → ((fm j).first : Int) ≠ b from fun j hj => by
          by_cases h : j = k
          · rw [h]; simpa using q
          · exact HJ.out j (by omega))
        go_upto_region 4 with (fail)
        change Code.wp _ _ _ _ (wr.alloc (.cells (fmC (fm k)) 51))
        have hal := (Below.refl wr.heap.size wr).alloc (Nat.le_refl _) (.cells (fmC (fm k)) 51)
        have HR1 := Lib.hid (HR.out.below hal HR.out.lt); have HB1 := Lib.hid (HB.out.trans (hal.mono HB.out.size)); have HF := Lib.hid (Blk.new wr 51 (fmC (fm k)))
        obtain ⟨g, hg⟩ : ∃ g, g = wr.heap.size := ⟨_, rfl⟩
        have HGL := Lib.hid (show p < g by rw [hg]; exact HR.out.lt)
        rw [← hg] at HF ⊢
        clear hal hg
        generalize wr.alloc (.cells (fmC (fm k)) 51) = v1 at *
        have c0 : v1.cell? ⟨g, 0, none⟩ = some (.int .i64 ((fm k).first : Int)) := HF.out.cell 0
        go_wp2_with (fail)
        go_roundw
        case rel => exact ⟨k + 1, by omega, by go_num, HB1, HR1, HJ1⟩
        case measure => simp [intOf]; omega
    · have HV := Lib.hid (HN.out (fun j hj => HJ.out j (by omega)))
      go_upto_region 7 with (fail)
      refine wp_region_lit ?_
      refine wpList_runs rfl (some 16) rfl (fmV zF) wr (by kernel_rfl) ?_
      refine wpList_store_row rfl 51 (.tmp 2) (.tmp 16) rfl p (fmC zF) rfl rfl 51 (fmC zF) HR.out form_info rfl (fmC_one _) ?_
      go_wp2_with (fail)
      refine bodyPost_ret_by (results_form rfl _ _ p zF rfl (setRow_blk HR.out)) rfl ?_
      exact ⟨by rw [HV.out]; rfl, below_setRow HB.out (Nat.le_of_eq HP.out.symm) _⟩
set_option maxRecDepth 100000 in
/-- The types' numbers. -/
theorem typ_any (n : Int) (w : World) (ht : FT w) : Calls Tryd.prog 17 #[.int .i64 n] w fun e w' => e = .returned (.int .i64 (typN n)) ∧ Below w.heap.size w w' := by
  have HB0 := Lib.hid (Below.refl w.heap.size w)
  have HT := Lib.hid ht
  have HW : Hid (∀ k : Nat, k < 7 → ((nuT k : Nat) : Int) = n → (k : Int) = typN n) := Lib.hid (fun k hk h => by
    subst h
    have : k = 0 ∨ k = 1 ∨ k = 2 ∨ k = 3 ∨ k = 4 ∨ k = 5 ∨ k = 6 := by omega
    rcases this with rfl | rfl | rfl | rfl | rfl | rfl | rfl <;> rfl)
  have HN : Hid ((∀ k : Nat, k < 7 → ((nuT k : Nat) : Int) ≠ n) → typN n = 0) := Lib.hid (fun h => by
    have a1 := h 1 (by decide); have a2 := h 2 (by decide); have a3 := h 3 (by decide); have a4 := h 4 (by decide); have a5 := h 5 (by decide); have a6 := h 6 (by decide)
    have e1 : ((nuT 1 : Nat) : Int) = 1 := rfl
    have e2 : ((nuT 2 : Nat) : Int) = 3 := rfl
    have e3 : ((nuT 3 : Nat) : Int) = 5 := rfl
    have e4 : ((nuT 4 : Nat) : Int) = 6 := rfl
    have e5 : ((nuT 5 : Nat) : Int) = 7 := rfl
    have e6 : ((nuT 6 : Nat) : Int) = 8 := rfl
    unfold typN
    rw [if_neg (by omega), if_neg (by omega), if_neg (by omega)])
  clear ht
  go_enter Tryd.func17, Tryd.ntmps17
  go_upto_region 1 with (fail)
  refine wp_region_lit ?_
  refine wpList_load_cells rfl 62 (.global 0) rfl 0 0 rfl numbersA (fun j v hj => by rw [Nat.zero_add]; exact HT.out.nums j v hj) (.array 7 3) Tryd.underlying62 rfl numbers_info ?_
  have HI := Lib.hid (fun (wr : World) => index_num wr)
  generalize numbersA = na at HI ⊢
  go_wp2_with (fail)
  go_loopw [6] (fun i wr => ∃ k : Nat, k ≤ 7 ∧ i = .int .i64 k ∧ Hid (Below w.heap.size w wr) ∧ Hid (∀ j : Nat, j < k → ((nuT j : Nat) : Int) ≠ n)) (fun i _ => 7 - (intOf i).toNat)
  case atStart => exact ⟨0, by decide, rfl, HB0, Lib.hid (fun j h => by omega)⟩
  case round =>
    obtain ⟨k, hk, rfl, HB, HJ⟩ := hrel
    by_cases hk14 : (k : Int) < 7
    · have hix := HI.out wr k (by omega)
      cases q : (((nuT k : Nat) : Int) == n) with
      | true =>
        have HV := Lib.hid (HW.out k (by omega) (by simpa using q))
        go_wp2_with (fail)
        go_ret
        exact ⟨by rw [← HV.out]; rfl, HB.out⟩
      | false =>
        have HJ1 := Lib.hid (show ∀ j : Nat, j < k + 1 → ((nuT j : Nat) : Int) ≠ n from fun j hj => by
          by_cases h : j = k
          · rw [h]; simpa using q
          · exact HJ.out j (by omega))
        go_wp2_with (fail)
        go_roundw
        case rel => exact ⟨k + 1, by omega, by go_num, HB, HJ1⟩
        case measure => simp [intOf]; omega
    · have HV := Lib.hid (HN.out (fun j hj => HJ.out j (by omega)))
      go_wp2_with (fail)
      go_ret
      exact ⟨by rw [HV.out]; rfl, HB.out⟩
theorem num_any (t : Int) (w : World) (ht : FT w) : Calls Tryd.prog 19 #[.int .i64 t] w fun e w' => e = .returned (.int .i64 (numN t)) ∧ Below w.heap.size w w' := by
  by_cases h0 : t < 0
  · have HV := Lib.hid (show numN t = 0 by unfold numN; rw [if_neg (by omega), if_neg (by omega), if_neg (by omega)])
    go_enter Tryd.func19, Tryd.ntmps19
    go_wp2_with (fail)
    go_ret
    exact ⟨by rw [HV.out]; rfl, Below.refl _ _⟩
  · by_cases h7 : 7 ≤ t
    · have HV := Lib.hid (show numN t = 0 by unfold numN; rw [if_neg (by omega), if_neg (by omega), if_neg (by omega)])
      go_enter Tryd.func19, Tryd.ntmps19
      go_wp2_with (fail)
      go_ret
      exact ⟨by rw [HV.out]; rfl, Below.refl _ _⟩
    · obtain ⟨k, rfl⟩ := Int.eq_ofNat_of_zero_le (show 0 ≤ t by omega)
      have hk : k < 7 := by omega
      have hc : w.cell? ⟨0, k, none⟩ = some (.int .i64 (numN k)) := by
        have : k = 0 ∨ k = 1 ∨ k = 2 ∨ k = 3 ∨ k = 4 ∨ k = 5 ∨ k = 6 := by omega
        rcases this with rfl | rfl | rfl | rfl | rfl | rfl | rfl <;> exact ht.nums _ _ rfl
      generalize numN k = r at hc
      clear ht
      go_enter Tryd.func19, Tryd.ntmps19
      go_wp2_with (fail)
      go_ret
      exact ⟨rfl, Below.refl _ _⟩
theorem number_any (s : ByteArray) (a n : Nat) (w : World) (hs : s.size ≤ maxLen) : Calls Tryd.prog 29 #[.string s, .agg #[.int .i64 (a : Int), .int .i64 (n : Int)]] w fun e w' => e = .returned (.int .i64 (nuI s a n)) ∧ Below w.heap.size w w' := by
  have HC := Lib.hid (fun v => big_any s a n v hs)
  obtain ⟨r, hr⟩ : ∃ r, r = bigR s a n := ⟨_, rfl⟩
  obtain ⟨o, ho⟩ : ∃ o, o = okB s a n := ⟨_, rfl⟩
  rw [← hr, ← ho] at HC
  obtain ⟨z, hz⟩ : ∃ z, z = nuI s a n := ⟨_, rfl⟩
  have hv : IntKind.i64.wrap (r : Int) = z := by rw [hz, hr]; rfl
  rw [← hz]
  clear hr ho hz
  go_enter Tryd.func29, Tryd.ntmps29
  go_wp2_with (fail)
  refine (HC.out _).mono ?_; rintro e v1 ⟨rfl, hb⟩
  have hal := (Below.refl w.heap.size w).alloc (Nat.le_refl _) (.cells #[.int .i64 (a : Int), .int .i64 (n : Int)] 48)
  have HB := Lib.hid (hal.trans (hb.mono hal.size))
  clear hal hb
  go_wp2_with (fail)
  go_ret
  exact ⟨rfl, HB.out⟩
theorem action_any (s : ByteArray) (w : World) (h2 : 2 ≤ s.size) : Calls Tryd.prog 30 #[.string s] w fun e w' => e = .returned (.int .i64 ((byt s 1 % 32 : Nat) : Int)) ∧ Below w.heap.size w w' := by
  have hix := fun w => index_byt s 1 1 rfl (by omega) w
  have hlt := byt_lt s 1
  obtain ⟨b, hb⟩ : ∃ b, b = byt s 1 := ⟨_, rfl⟩
  rw [← hb] at hix hlt ⊢
  have HC := Lib.hid (fun v => bits_any b 0 5 v (by omega) (by unfold In64; omega) (by unfold In64; omega))
  rw [show bitsI b 0 5 = ((b % 32 : Nat) : Int) by unfold bitsI bitsV; simp] at HC
  obtain ⟨c, hc⟩ : ∃ c, c = b % 32 := ⟨_, rfl⟩
  rw [← hc] at HC ⊢
  have hw1 : IntKind.u64.wrap (b : Int) = (b : Int) := by rw [IntKind.wrap_u64]; omega
  have hw2 : IntKind.i64.wrap (c : Int) = (c : Int) := IntWalk.i64_in _ (by omega)
  clear hb hc
  go_enter Tryd.func30, Tryd.ntmps30
  go_wp2_with (fail)
  refine (HC.out _).mono ?_; rintro e v1 ⟨rfl, hb⟩
  go_wp2_with (fail)
  go_ret
  exact ⟨rfl, hb⟩
theorem nar_any (n : Int) (w : World) : Calls Tryd.prog 32 #[.int .i64 n] w fun e w' => e = .returned (.bool (narB n)) ∧ w = w' := by
  by_cases h : 0 ≤ n ∧ n < 2147483648
  · rw [show narB n = true from decide_eq_true h]
    obtain ⟨h1, h2⟩ := h
    go_enter Tryd.func32, Tryd.ntmps32
    go_wp2_with (fail)
    go_ret
    exact ⟨rfl, rfl⟩
  · rw [show narB n = false from decide_eq_false h]
    by_cases h1 : 0 ≤ n
    · have h2 : ¬ n < 2147483648 := fun h2 => h ⟨h1, h2⟩
      clear h
      go_enter Tryd.func32, Tryd.ntmps32
      go_wp2_with (fail)
      go_ret
      exact ⟨rfl, rfl⟩
    · clear h
      go_enter Tryd.func32, Tryd.ntmps32
      go_wp2_with (fail)
      go_ret
      exact ⟨rfl, rfl⟩
theorem bitN_any (v : Nat) (a : Nat) (w : World) (hv : v < 18446744073709551616) (ha : a < 64) : Calls Tryd.prog 31 #[.int .u64 v, .int .i64 (a : Int)] w fun e w' => e = .returned (.bool (bitN v a)) ∧ Below w.heap.size w w' := by
  refine (bit_any v a w hv (by unfold In64; omega)).mono ?_
  rintro e w' ⟨rfl, hb⟩
  refine ⟨?_, hb⟩
  have : (bitsI v a 1 == 1) = bitN v a := by
    unfold bitsI bitsV bitN
    rw [if_pos (by omega)]
    simp only [Int.toNat_natCast, show (1 : Int).toNat = 1 from rfl, Nat.pow_one]
    have : v / 2 ^ a % 2 = 0 ∨ v / 2 ^ a % 2 = 1 := by omega
    rcases this with h | h <;> rw [h] <;> rfl
  rw [this]
end Go.Proofs.YtaachlijpgmjeaaDoor
