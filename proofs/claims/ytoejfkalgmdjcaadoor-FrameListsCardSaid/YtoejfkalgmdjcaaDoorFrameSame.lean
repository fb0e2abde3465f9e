/- Lists of writes: are they alike; a copy; a text of writes read again. -/
import Derived.Test.YtoejfkalgmdjcaaDoorFrameSplitB
import Derived.Deep.QuietTactic
import Derived.BigQuiet
namespace Go.Proofs.YtoejfkalgmdjcaaDoor
open Go.RowKit
set_option maxHeartbeats 1000000 in
theorem same_eq (A1 A2 : Option Addr) (c1 c2 : Nat) (l : List Wr) (w : World) (h1 : Wrs w A1 l) (h2 : Wrs w A2 l) (hl : l.length ≤ 100000) :
    Calls Tryd.prog 20 #[.slice A1 l.length c1, .slice A2 l.length c2] w fun e w' => e = .returned (.bool true) ∧ Below w.heap.size w w' := by
  have H1 := Lib.hid h1; have H2 := Lib.hid h2; clear h1 h2
  go_enter Tryd.func20, Tryd.ntmps20
  go_wp2_with (fail)
  go_loopw [5] (fun i wr => ∃ k : Nat, i = .int .i64 k ∧ k ≤ l.length ∧ Below w.heap.size w wr) (fun i _ => l.length - (intOf i).toNat)
  case atStart => exact ⟨0, rfl, Nat.zero_le _, Below.refl _ _⟩
  case round =>
    obtain ⟨k, rfl, hk, hb⟩ := hrel
    have HB := Lib.hid hb; clear hb
    by_cases hlt : k < l.length
    · have hki : (k : Int) < l.length := by omega
      obtain ⟨b1, o1, i1, s1, rfl, hat1, d1, d2⟩ := (H1.out.below HB.out).at_ hlt
      obtain ⟨b2, o2, i2, s2, rfl, hat2, d3, d4⟩ := (H2.out.below HB.out).at_ hlt
      obtain ⟨rfl, rfl⟩ : i1 = i2 ∧ s1 = s2 := by rw [hat1] at hat2; injection hat2 with h; injection h with ha hb; exact ⟨ha, hb⟩
      clear hat1 hat2
      have n1 : (i1 != i1) = false := by simp
      have n2 : (s1.toList == s1.toList) = true := by simp
      go_wp2_with (fail)
      go_quiet (fail)
      go_wp2_with (fail)

      exact ⟨⟨k + 1, by go_num, by omega, HB.out.os, HB.out.tape, HB.out.output, HB.out.size, HB.out.block⟩, by simp [intOf]; omega⟩
    · obtain rfl : k = l.length := by omega
      go_wp2
      go_ret
      exact ⟨rfl, HB.out⟩
theorem own_empty (w : World) : (w.alloc (.cells #[] 40)).ownsRow w.heap.size 40 2 (.slice (some ⟨w.heap.size, 0, none⟩) 0 0) 0 [] :=
  ⟨rfl, .inr ⟨w.heap.size, 0, #[], rfl, Nat.le_refl _, heap_alloc_new w _, Nat.le_refl _, Nat.zero_le _, rfl, rfl⟩⟩
theorem run_append_none (w : World) (ty : TypeId) (base e : Nat) (i : TypeInfo) (t : TypeId) (ht : Tryd.prog.underlying t = some (.slice e)) (hi : Tryd.prog.info? e = some i) (v : Value) (n size : Nat) (xs : List Value) (hown : w.ownsRow base e size v n xs) (c : Nat) :
    (Builtin.append_ #[t, t] ty #[v, .slice none 0 c]).run Tryd.prog w = .ok v w := by
  rcases hown.2 with ⟨rfl, rfl⟩ | ⟨g, cap, cur, rfl, _, _, hnc, _⟩
  · simp [Builtin.append_, run_underlying ht, sizeOf, typeInfo, hi, Builtin.lenOf, Builtin.firstCells]
  · simp [Builtin.append_, run_underlying ht, sizeOf, typeInfo, hi, Builtin.lenOf, Builtin.firstCells, hnc, storeCells]
theorem wrCells_one (l : List Wr) : ∀ u ∈ wrCells l, u.oneCell' = true := by
  intro u hu
  unfold wrCells at hu
  rw [List.mem_flatMap] at hu
  obtain ⟨x, _, hx⟩ := hu
  simp at hx
  rcases hx with rfl | rfl <;> rfl
theorem wrs_cells {w : World} {b o : Nat} {l : List Wr} (hc : ∀ (j : Nat) (x : Wr), l[j]? = some x → w.cell? ⟨b, o + j * 2, none⟩ = some (.int .i64 x.1) ∧ w.cell? ⟨b, o + j * 2 + 1, none⟩ = some (.string x.2)) :
    ∀ j u, (wrCells l)[j]? = some u → w.cell? ⟨b, o + j, none⟩ = some u := by
  intro j u hu
  have hlt : j < l.length * 2 := by have := (List.getElem?_eq_some_iff.1 hu).1; rw [wrCells_length] at this; exact this
  have hk : j / 2 < l.length := by omega
  have hx : l[j / 2]? = some l[j / 2] := List.getElem?_eq_getElem hk
  obtain ⟨h1, h2⟩ := hc _ _ hx
  obtain ⟨g1, g2⟩ := wrCells_at hx
  rcases Nat.mod_two_eq_zero_or_one j with hm | hm
  · have e : j / 2 * 2 = j := by omega
    rw [e] at h1 g1
    rw [h1, ← g1, hu]
  · have e : j / 2 * 2 + 1 = j := by omega
    rw [Nat.add_assoc, e] at h2
    rw [e] at g2
    rw [h2, ← g2, hu]
/-- 'append([]api.Write{}, l...)'. -/
theorem wpList_append_wrs {ops : Array Oper} {rest : List Oper} {o : Oper} {a : Act} {w : World} {Q : Exit → Act → World → Prop} (hgd : o.guard = none) (s x : Operand)
    (ho : o.op = .call { callee := .builtin .append, args := #[s, x], argTypes := #[38, 38] }) (B : Nat) (v : Value) (hs : a.eval s = v) (hown : w.ownsRow B 40 2 v 0 [])
    (A : Option Addr) (c : Nat) (l : List Wr) (hx : a.eval x = .slice A l.length c) (hks : Wrs w A l) (hm : l.length * 24 ≤ 140737488355328) (hB : B ≤ w.heap.size)
    (h : ∀ A' c' w', Wrs w' A' l → w.grownBy w' v.ownBlock → wpList Tryd.prog ops Q rest (a.put o.dst (.slice A' l.length c')) w') : wpList Tryd.prog ops Q (o :: rest) a w := by
  obtain ⟨i0, hi0, hz0, hz1, hz2⟩ := info_parts info40
  have key : ∃ v' w', (Builtin.append_ #[38, 38] o.type #[v, .slice A l.length c]).run Tryd.prog w = .ok v' w' ∧ w'.ownsRow B 40 2 v' l.length (wrCells l) ∧ w.grownBy w' v.ownBlock := by
    cases A with
    | none =>
      have h0 : l = [] := by
        cases l with
        | nil => rfl
        | cons k ks =>
          obtain ⟨b, o, e, _⟩ := hks (by simp)
          cases e
      subst h0
      exact ⟨v, w, run_append_none w o.type B 40 i0 38 Tryd.underlying38 hi0 v 0 2 [] hown c, hown, World.grownBy.refl w _⟩
    | some ad =>
      have hc : ∀ j u, (wrCells l)[j]? = some u → w.cell? (ad.add j) = some u := by
        intro j u hu
        have hlt : j < l.length * 2 := by have := (List.getElem?_eq_some_iff.1 hu).1; rw [wrCells_length] at this; exact this
        obtain ⟨b, o, e, hc⟩ := hks (by omega)
        obtain rfl : ad = ⟨b, o, none⟩ := Option.some.inj e
        rw [Addr.add_lit]
        exact wrs_cells hc j u hu
      obtain ⟨v', w', h1, h2, h3, _, _⟩ := run_append_own_at (P := Tryd.prog) w B 38 o.type 40 i0 _ 2 24 Tryd.underlying38 hi0 hz0 hz1 hz2 rfl (by omega) v 0 [] hown ad l.length c (wrCells l) (wrCells_length l) hc (wrCells_one l) (by unfold maxLen; omega) (by omega) hB
      rw [Nat.zero_add, List.nil_append] at h2
      exact ⟨v', w', h1, h2, h3⟩
  obtain ⟨v', w', hr, h2, h3⟩ := key
  obtain ⟨A', c', rfl, hn⟩ := wrs_of_own h2
  refine wpList_plain hgd fun K hK => ?_
  unfold Oper.wp execOp
  simp only [ho, resolve, invoke, builtin, Sem.run_bind, Sem.run_pure, Result.andThen_ok, List.map_toArray, List.map_cons, List.map_nil, hs, hx, hr]
  exact hK _ _ (h A' c' w' hn h3)
theorem all_mem {l : List Wr} (h : l.all okW = true) {k : Nat} {x : Wr} (hk : l[k]? = some x) : 0 ≤ x.1 ∧ x.1 < 8192 ∧ x.2.size = 512 := of_decide_eq_true (List.all_eq_true.1 h x (List.mem_of_getElem? hk))
theorem take_all {l : List Wr} (h : l.all okW = true) (k : Nat) : (l.take k).all okW = true := List.all_eq_true.2 fun x hx => List.all_eq_true.1 h x (List.mem_of_mem_take hx)
theorem text_cut (l : List Wr) (k : Nat) (x : Wr) (hk : l[k]? = some x) : textW l = putHi l.length 4 ++ (wcat (l.take k) ++ (putHi x.1.toNat 4 ++ (x.2 ++ wcat (l.drop (k + 1))))) := by
  obtain ⟨hlt, he⟩ := List.getElem?_eq_some_iff.1 hk
  have e : wcat l = wcat (l.take k) ++ wcat (l.drop k) := by rw [← wcat_app, List.take_append_drop]
  unfold textW
  rw [e, List.drop_eq_getElem_cons hlt, he]
  rfl
theorem text_size (l : List Wr) (h : l.all okW = true) : (textW l).size = 4 + 516 * l.length := by unfold textW; rw [ByteArray.size_append, putHi4, wcat_size l h]
theorem text_count (l : List Wr) (h : l.all okW = true) (hl : l.length ≤ 80) : countS (textW l) = l.length := by
  refine num_of (textW l) (putHi l.length 4) 0 4 l.length (by omega) (by omega) ?_ (by rw [text_size l h]; omega) rfl (by omega)
  unfold textW
  exact extHead _ _ _ _ rfl (by rw [putHi4])
theorem text_at (l : List Wr) (h : l.all okW = true) (k : Nat) (x : Wr) (hk : l[k]? = some x) : placeS (textW l) k = x.1.toNat ∧ dataS (textW l) k = x.2 := by
  have hlt := (List.getElem?_eq_some_iff.1 hk).1
  obtain ⟨h0, h1, h2⟩ := all_mem h hk
  have hz := wcat_size _ (take_all h k)
  rw [List.length_take, Nat.min_eq_left (by omega)] at hz
  have z1 := putHi4 l.length
  have z2 := putHi4 x.1.toNat
  have hs := text_size l h
  have hc := text_cut l k x hk
  refine ⟨?_, ?_⟩
  · refine num_of (textW l) (putHi x.1.toNat 4) (4 + 516 * k) 4 x.1.toNat (by omega) (by omega) ?_ (by omega) rfl (by omega)
    rw [hc, extR _ _ _ _ (by omega), extR _ _ _ _ (by omega)]
    exact extHead _ _ _ _ (by omega) (by omega)
  · unfold dataS
    rw [hc, extR _ _ _ _ (by omega), extR _ _ _ _ (by omega), extR _ _ _ _ (by omega)]
    exact extHead _ _ _ _ (by omega) (by omega)
theorem text_ok (l : List Wr) (h : l.all okW = true) (hl : l.length ≤ 80) : SplitOk (textW l) := by
  have hc := text_count l h hl
  refine ⟨by rw [text_size l h]; omega, by omega, fun k hk => ?_, by rw [hc, text_size l h]⟩
  rw [hc] at hk
  have hx : l[k]? = some l[k] := List.getElem?_eq_getElem hk
  have := all_mem h hx
  rw [(text_at l h k _ hx).1]
  omega
theorem text_back (l : List Wr) (h : l.all okW = true) (hl : l.length ≤ 80) : splitL (textW l) (countS (textW l)) = l := by
  rw [text_count l h hl]
  apply List.ext_getElem?
  intro k
  by_cases hk : k < l.length
  · have hx : l[k]? = some l[k] := List.getElem?_eq_getElem hk
    have hm := all_mem h hx
    obtain ⟨e1, e2⟩ := text_at l h k _ hx
    unfold splitL
    rw [List.getElem?_map, List.getElem?_range hk, hx]
    simp only [Option.map_some, e1, e2]
    congr 1
    apply Prod.ext
    · exact Int.toNat_of_nonneg hm.1
    · rfl
  · rw [List.getElem?_eq_none (by rw [splitL_length]; omega), List.getElem?_eq_none (by omega)]
end Go.Proofs.YtoejfkalgmdjcaaDoor
