/- Find, Used, copies, comparisons. -/
import Derived.Test.YtdopcliicjmjeaaExU
import Derived.Test.YtdopcliicjmjeaaExX
namespace Go.Proofs.Ytdopcliicjmjeaa
open Go.RowKit
theorem own_empty (w : World) : (w.alloc (.cells #[] 32)).ownsRow w.heap.size 32 3 (.slice (some ⟨w.heap.size, 0, none⟩) 0 0) 0 [] :=
  ⟨rfl, .inr ⟨w.heap.size, 0, #[], rfl, Nat.le_refl _, heap_alloc_new w _, Nat.le_refl _, Nat.zero_le _, rfl, rfl⟩⟩
theorem run_append_none (w : World) (ty : TypeId) (base e : Nat) (i : TypeInfo) (t : TypeId) (ht : Try.prog.underlying t = some (.slice e)) (hi : Try.prog.info? e = some i) (v : Value) (n size : Nat) (xs : List Value) (hown : w.ownsRow base e size v n xs) (c : Nat) :
    (Builtin.append_ #[t, t] ty #[v, .slice none 0 c]).run Try.prog w = .ok v w := by
  rcases hown.2 with ⟨rfl, rfl⟩ | ⟨g, cap, cur, rfl, _, _, hnc, _⟩
  · simp [Builtin.append_, run_underlying ht, sizeOf, typeInfo, hi, Builtin.lenOf, Builtin.firstCells]
  · simp [Builtin.append_, run_underlying ht, sizeOf, typeInfo, hi, Builtin.lenOf, Builtin.firstCells, hnc, storeCells]
theorem exCells_one (l : List Ex) : ∀ u ∈ exCells l, u.oneCell' = true := by
  intro u hu
  unfold exCells at hu
  rw [List.mem_flatMap] at hu
  obtain ⟨x, _, hx⟩ := hu
  simp at hx
  rcases hx with rfl | rfl | rfl <;> rfl
theorem exts_cells {w : World} {b o : Nat} {l : List Ex} (hc : ∀ (j : Nat) (x : Ex), l[j]? = some x → x.Wf ∧ w.cell? ⟨b, o + j * 3, none⟩ = some (.int .i64 x.l) ∧ w.cell? ⟨b, o + j * 3 + 1, none⟩ = some (.int .i64 x.b) ∧ w.cell? ⟨b, o + j * 3 + 2, none⟩ = some (.int .i64 x.a)) :
    ∀ j u, (exCells l)[j]? = some u → w.cell? ⟨b, o + j, none⟩ = some u := by
  intro j u hu
  have hlt : j < l.length * 3 := by have := (List.getElem?_eq_some_iff.1 hu).1; rw [exCells_length] at this; exact this
  have hk : j / 3 < l.length := by omega
  have hx : l[j / 3]? = some l[j / 3] := List.getElem?_eq_getElem hk
  obtain ⟨_, h1, h2, h3⟩ := hc _ _ hx
  obtain ⟨g1, g2, g3⟩ := exCells_at hx
  have hm : j % 3 = 0 ∨ j % 3 = 1 ∨ j % 3 = 2 := by omega
  rcases hm with hm | hm | hm
  · have e : j / 3 * 3 = j := by omega
    rw [e] at h1 g1
    rw [h1, ← g1, hu]
  · have e : j / 3 * 3 + 1 = j := by omega
    rw [Nat.add_assoc, e] at h2
    rw [e] at g2
    rw [h2, ← g2, hu]
  · have e : j / 3 * 3 + 2 = j := by omega
    rw [Nat.add_assoc, e] at h3
    rw [e] at g3
    rw [h3, ← g3, hu]
/-- 'append([]api.Extent{}, l...)'. -/
theorem wpList_append_exs {ops : Array Oper} {rest : List Oper} {o : Oper} {a : Act} {w : World} {Q : Exit → Act → World → Prop} (hgd : o.guard = none) (s x : Operand)
    (ho : o.op = .call { callee := .builtin .append, args := #[s, x], argTypes := #[22, 22] }) (B : Nat) (v : Value) (hs : a.eval s = v) (hown : w.ownsRow B 32 3 v 0 [])
    (A : Option Addr) (c : Nat) (l : List Ex) (hx : a.eval x = .slice A l.length c) (hks : Exts w A l) (hwf : ∀ x ∈ l, x.Wf) (hm : l.length * 24 ≤ 140737488355328) (hB : B ≤ w.heap.size)
    (h : ∀ A' c' w', Exts w' A' l → w.grownBy w' v.ownBlock → wpList Try.prog ops Q rest (a.put o.dst (.slice A' l.length c')) w') : wpList Try.prog ops Q (o :: rest) a w := by
  obtain ⟨i0, hi0, hz0, hz1, hz2⟩ := info_parts info32
  have key : ∃ v' w', (Builtin.append_ #[22, 22] o.type #[v, .slice A l.length c]).run Try.prog w = .ok v' w' ∧ w'.ownsRow B 32 3 v' l.length (exCells l) ∧ w.grownBy w' v.ownBlock := by
    cases A with
    | none =>
      have h0 : l = [] := by
        cases l with
        | nil => rfl
        | cons k ks =>
          obtain ⟨b, o, e, _⟩ := hks (by simp)
          cases e
      subst h0
      exact ⟨v, w, run_append_none w o.type B 32 i0 22 Try.underlying22 hi0 v 0 3 [] hown c, hown, World.grownBy.refl w _⟩
    | some ad =>
      have hc : ∀ j u, (exCells l)[j]? = some u → w.cell? (ad.add j) = some u := by
        intro j u hu
        have hlt : j < l.length * 3 := by have := (List.getElem?_eq_some_iff.1 hu).1; rw [exCells_length] at this; exact this
        obtain ⟨b, o, e, hc⟩ := hks (by omega)
        obtain rfl : ad = ⟨b, o, none⟩ := Option.some.inj e
        rw [Addr.add_lit]
        exact exts_cells hc j u hu
      obtain ⟨v', w', h1, h2, h3, _, _⟩ := run_append_own_at (P := Try.prog) w B 22 o.type 32 i0 _ 3 24 Try.underlying22 hi0 hz0 hz1 hz2 rfl (by omega) v 0 [] hown ad l.length c (exCells l) (exCells_length l) hc (exCells_one l) (by unfold maxLen; omega) (by omega) hB
      rw [Nat.zero_add, List.nil_append] at h2
      exact ⟨v', w', h1, h2, h3⟩
  obtain ⟨v', w', hr, h2, h3⟩ := key
  obtain ⟨A', c', rfl, hn, _⟩ := exts_of_own h2 hwf
  refine wpList_plain hgd fun K hK => ?_
  unfold Oper.wp execOp
  simp only [ho, resolve, invoke, builtin, Sem.run_bind, Sem.run_pure, Result.andThen_ok, List.map_toArray, List.map_cons, List.map_nil, hs, hx, hr]
  exact hK _ _ (h A' c' w' hn h3)
theorem Exts.allWf {w : World} {A : Option Addr} {l : List Ex} (h : Exts w A l) : ∀ x ∈ l, x.Wf := fun x hx => by
  obtain ⟨j, hj, rfl⟩ := List.getElem_of_mem hx
  exact h.wf (List.getElem?_eq_getElem hj)
set_option maxHeartbeats 1000000 in
theorem few_any (A : Option Addr) (c : Nat) (l : List Ex) (w : World) (hl : Exts w A l) (hn : l.length ≤ 100000) :
    Calls Try.prog 11 #[.slice A l.length c] w fun e w' => ∃ A' c', e = .returned (.slice A' l.length c') ∧ Exts w' A' l ∧ Below w.heap.size w w' := by
  have HL := Lib.hid hl
  have HE := Lib.hid (own_empty w)
  have HB := Lib.hid ((Below.refl w.heap.size w).alloc (Nat.le_refl _) (.cells #[] 32))
  clear hl
  go_enter Try.func11, Try.ntmps11
  go_wp2_with (at_builtin; refine wpList_append_exs rfl (.tmp 3) (.tmp 4) rfl w.heap.size (.slice (some ⟨w.heap.size, 0, none⟩) 0 0) rfl HE.out A c l rfl (HL.out.below HB.out) HL.out.allWf (by omega) HB.out.size ?_; intro A' c' w' hx' hg'; have HX := Lib.hid hx'; have HW := Lib.hid (HB.out.grown hg' (Nat.le_trans HB.out.size (Nat.le_refl _)) (fun k e => by cases e; exact Nat.le_refl _)); clear hx' hg')
  go_ret
  exact ⟨_, _, rfl, HX.out, HW.out⟩
def sumB : List Ex → Int
  | [] => 0
  | x :: t => x.b + sumB t
theorem sumB_snoc (l : List Ex) (x : Ex) : sumB (l ++ [x]) = sumB l + x.b := by
  induction l with
  | nil => show x.b + 0 = 0 + x.b; omega
  | cons y t ih => show y.b + sumB (t ++ [x]) = y.b + sumB t + x.b; rw [ih]; omega
theorem sumB_next {l : List Ex} {k : Nat} {x : Ex} (h : l[k]? = some x) : sumB (l.take (k + 1)) = sumB (l.take k) + x.b := by
  rw [List.take_add_one, h, Option.toList_some, sumB_snoc]
theorem sumB_small {l : List Ex} (h : ∀ x ∈ l, x.Fits) : 0 ≤ sumB l ∧ sumB l ≤ 4096 * (l.length : Int) := by
  induction l with
  | nil => simp [sumB]
  | cons y t ih =>
    have h1 := h y (by simp)
    have h2 := ih (fun x hx => h x (by simp [hx]))
    unfold Ex.Fits at h1
    simp only [sumB, List.length_cons]
    omega
def usedX (l : List Ex) : Int := if goodB l then sumB l else 0
set_option maxRecDepth 100000 in
set_option maxHeartbeats 2000000 in
theorem used_any (A : Option Addr) (c : Nat) (l : List Ex) (w : World) (hl : Exts w A l) (hn : l.length ≤ 100000) :
    Calls Try.prog 16 #[.slice A l.length c] w fun e w' => e = .returned (.int .i64 (usedX l)) ∧ Below w.heap.size w w' := by
  have HL := Lib.hid hl
  clear hl
  have HGA := Lib.hid (fun v (h : Exts v A l) => good_any A c l v h (by unfold maxLen; omega))
  unfold usedX
  go_enter Try.func16, Try.ntmps16
  cases hg : goodB l with
  | false =>
    rw [hg] at HGA
    clear hg
    rw [if_neg (by simp)]
    go_wp2_with (fail)
    refine (HGA.out _ HL.out).mono ?_; rintro e w1 ⟨rfl, hb1⟩
    have HB1 := Lib.hid hb1
    clear hb1
    have hnt := not_false w1
    go_wp2_with (fail)
    go_ret
    exact ⟨rfl, HB1.out⟩
  | true =>
    have HF := Lib.hid (good_asc hg).fits
    rw [hg] at HGA
    clear hg
    rw [if_pos rfl]
    go_wp2_with (fail)
    refine (HGA.out _ HL.out).mono ?_; rintro e w1 ⟨rfl, hb1⟩
    have HB1 := Lib.hid hb1
    have HL1 := Lib.hid (HL.out.below hb1)
    clear hb1
    have hnt := not_true w1
    go_wp2_with (fail)
    clear hnt
    go_loopw [11, 3] (fun i s wr => ∃ k : Nat, i = .int .i64 k ∧ k ≤ l.length ∧ s = .int .i64 (sumB (l.take k)) ∧ Below w.heap.size w wr) (fun i _ _ => l.length - (intOf i).toNat)
    case atStart => exact ⟨0, rfl, Nat.zero_le _, rfl, HB1.out⟩
    case round =>
      obtain ⟨k, rfl, hk, rfl, hb⟩ := hrel
      have HB := Lib.hid hb; clear hb
      by_cases hlt : k < l.length
      · have hki : (k : Int) < l.length := by omega
        obtain ⟨b, o, x, rfl, hat, wf, c0, c1, c2⟩ := (HL.out.kept (fun hn a ha => HB.out.block _ (HL.out.lt hn a ha)) : Exts wr A l).at_ hlt
        have HS := Lib.hid (sumB_next hat)
        have hf := HF.out x (List.mem_of_getElem? hat)
        have hs := sumB_small (l := l.take k) (fun y hy => HF.out y (List.mem_of_mem_take hy))
        rw [List.length_take, Nat.min_eq_left hk] at hs
        unfold Ex.Fits at hf
        have hw : IntKind.i64.wrap (sumB (l.take k) + x.b) = sumB (l.take k) + x.b := i64w _ (by omega)
        clear hat wf hf hs
        generalize sumB (l.take k) = sk at *
        go_wp2_with (fail)
        go_roundw
        case rel => exact ⟨k + 1, by go_num, by omega, by rw [HS.out], HB.out.alloc HB.out.size _⟩
        case measure => simp [intOf]; omega
      · obtain rfl : k = l.length := by omega
        rw [List.take_length]
        go_wp2
        go_ret
        exact ⟨rfl, HB.out⟩
def findV (o : Option Int) : Value := match o with | some v => .tuple #[.int .i64 v, .bool true] | none => .tuple #[.int .i64 0, .bool false]
def findX (l : List Ex) (n : Int) : Option Int := if goodB l then whereX l n else none
theorem where_next {l : List Ex} {k : Nat} {x : Ex} (h : l[k]? = some x) (n : Int) : whereX (l.drop k) n = if x.l ≤ n ∧ n < x.l + x.b then some (x.a + n - x.l) else whereX (l.drop (k + 1)) n := by
  obtain ⟨hk, e⟩ := List.getElem?_eq_some_iff.1 h
  rw [List.drop_eq_getElem_cons hk, e]
  rfl
set_option maxRecDepth 100000 in
set_option maxHeartbeats 2000000 in
theorem find_any (A : Option Addr) (c : Nat) (l : List Ex) (n : Int) (w : World) (hl : Exts w A l) (hn : l.length ≤ 100000) :
    Calls Try.prog 12 #[.slice A l.length c, .int .i64 n] w fun e w' => e = .returned (findV (findX l n)) ∧ Below w.heap.size w w' := by
  have HL := Lib.hid hl
  clear hl
  have HGA := Lib.hid (fun v (h : Exts v A l) => good_any A c l v h (by unfold maxLen; omega))
  unfold findX
  go_enter Try.func12, Try.ntmps12
  cases hg : goodB l with
  | false =>
    rw [hg] at HGA
    clear hg
    rw [if_neg (by simp)]
    go_wp2_with (fail)
    refine (HGA.out _ HL.out).mono ?_; rintro e w1 ⟨rfl, hb1⟩
    have HB1 := Lib.hid hb1
    clear hb1
    have hnt := not_false w1
    go_wp2_with (fail)
    go_ret2
    exact ⟨rfl, HB1.out⟩
  | true =>
    have HF := Lib.hid (good_asc hg).fits
    rw [hg] at HGA
    clear hg
    rw [if_pos rfl]
    obtain ⟨r, hr⟩ : ∃ r, whereX l n = r := ⟨_, rfl⟩
    have HR := Lib.hid hr; clear hr
    rw [HR.out]
    go_wp2_with (fail)
    refine (HGA.out _ HL.out).mono ?_; rintro e w1 ⟨rfl, hb1⟩
    have HB1 := Lib.hid hb1
    clear hb1
    have hnt := not_true w1
    go_wp2_with (fail)
    clear hnt
    go_loopw [13] (fun i wr => ∃ k : Nat, i = .int .i64 k ∧ k ≤ l.length ∧ r = whereX (l.drop k) n ∧ Below w.heap.size w wr) (fun i _ => l.length - (intOf i).toNat)
    case atStart => exact ⟨0, rfl, Nat.zero_le _, HR.out.symm, HB1.out⟩
    case round =>
      obtain ⟨k, rfl, hk, hw, hb⟩ := hrel
      have HB := Lib.hid hb; have HW := Lib.hid hw; clear hb hw
      by_cases hlt : k < l.length
      · have hki : (k : Int) < l.length := by omega
        obtain ⟨b, o, x, rfl, hat, wf, c0, c1, c2⟩ := (HL.out.kept (fun hn a ha => HB.out.block _ (HL.out.lt hn a ha)) : Exts wr A l).at_ hlt
        have HN := Lib.hid (where_next hat n)
        have hf := HF.out x (List.mem_of_getElem? hat)
        obtain ⟨s1, s2, _, _⟩ := fits_sums hf
        have HE := Lib.hid (fun v => end_any x v s1 s2)
        unfold Ex.Fits at hf
        unfold exV at HE
        have HWF := Lib.hid wf
        clear hat wf s1 s2
        by_cases q1 : x.l ≤ n
        · by_cases q2 : n < x.l + x.b
          · have HV := Lib.hid (show r = some (x.a + n - x.l) by rw [HW.out, HN.out, if_pos ⟨q1, q2⟩])
            have e1 : IntKind.i64.wrap (x.a + n) = x.a + n := i64w _ (by omega)
            have e2 : IntKind.i64.wrap (x.a + n - x.l) = x.a + n - x.l := i64w _ (by omega)
            clear hf
            go_wp2_with (fail)
            refine (HE.out _).mono ?_; rintro e w2 ⟨rfl, hb2⟩
            have hbx := Blk.new wr 32 (exC x)
            have hal := (Below.refl wr.heap.size wr).alloc (Nat.le_refl _) (.cells (exC x) 32)
            obtain ⟨a0, a1, a2⟩ := blk_cells3 (x := x) hbx hb2
            have HB2 := Lib.hid (HB.out.trans ((hal.trans (hb2.mono hal.size)).mono HB.out.size))
            clear hb2 hbx hal
            go_wp2_with (fail)
            go_ret2
            exact ⟨by rw [HV.out]; rfl, HB2.out⟩
          · have HV := Lib.hid (show r = whereX (l.drop (k + 1)) n by rw [HW.out, HN.out, if_neg (by omega)])
            clear hf
            go_wp2_with (fail)
            refine (HE.out _).mono ?_; rintro e w2 ⟨rfl, hb2⟩
            have hal := (Below.refl wr.heap.size wr).alloc (Nat.le_refl _) (.cells (exC x) 32)
            have HB2 := Lib.hid (HB.out.trans ((hal.trans (hb2.mono hal.size)).mono HB.out.size))
            clear hb2 hal
            go_wp2_with (fail)
            go_roundw
            case rel => exact ⟨k + 1, by go_num, by omega, HV.out, HB2.out⟩
            case measure => simp [intOf]; omega
        · have HV := Lib.hid (show r = whereX (l.drop (k + 1)) n by rw [HW.out, HN.out, if_neg (by omega)])
          clear hf
          have hal := (Below.refl wr.heap.size wr).alloc (Nat.le_refl _) (.cells (exC x) 32)
          have HB2 := Lib.hid (HB.out.trans (hal.mono HB.out.size))
          clear hal
          go_wp2_with (fail)
          go_roundw
          case rel => exact ⟨k + 1, by go_num, by omega, HV.out, HB2.out⟩
          case measure => simp [intOf]; omega
      · obtain rfl : k = l.length := by omega
        have HV := Lib.hid (show r = none by rw [HW.out, List.drop_length]; rfl)
        go_wp2
        go_ret2
        exact ⟨by rw [HV.out]; rfl, HB.out⟩
end Go.Proofs.Ytdopcliicjmjeaa
