/- Lists of ranges of one's own: copied, compared. -/
import Derived.Test.YtgncllhhajjnlaaInH
import Derived.Maps.AppendAt
import Derived.Laws.OwnMore
namespace Go.Proofs.Ytgncllhhajjnlaa
open Go.RowKit
def rcs : List Rn → List Value
  | [] => []
  | r :: l => .int .i64 r.l :: .int .i64 r.b :: rcs l
theorem rcs_length : ∀ l : List Rn, (rcs l).length = l.length * 2
  | [] => rfl
  | r :: l => by show (rcs l).length + 1 + 1 = (l.length + 1) * 2; rw [rcs_length l]; omega
theorem rcs_get : ∀ {l : List Rn} {j : Nat} {r : Rn}, l[j]? = some r → (rcs l)[j * 2]? = some (.int .i64 r.l) ∧ (rcs l)[j * 2 + 1]? = some (.int .i64 r.b)
  | y :: l, 0, r, h => by
    obtain rfl : y = r := by simpa using h
    exact ⟨rfl, rfl⟩
  | y :: l, j + 1, r, h => by
    obtain ⟨h1, h2⟩ := rcs_get (l := l) (j := j) (r := r) (by simpa using h)
    rw [show (j + 1) * 2 = j * 2 + 1 + 1 by omega]
    exact ⟨by simpa [rcs] using h1, by simpa [rcs] using h2⟩
theorem rcs_one {l : List Rn} : ∀ u ∈ rcs l, u.oneCell' = true := by
  induction l with
  | nil => intro u hu; cases hu
  | cons r l ih =>
    intro u hu
    rcases List.mem_cons.1 hu with rfl | hu
    · rfl
    · rcases List.mem_cons.1 hu with rfl | hu
      · rfl
      · exact ih u hu
theorem run_append_none (w : World) (ty : TypeId) (base e : Nat) (i : TypeInfo) (t : TypeId) (ht : Try.prog.underlying t = some (.slice e)) (hi : Try.prog.info? e = some i) (v : Value) (n size : Nat) (xs : List Value) (hown : w.ownsRow base e size v n xs) (c : Nat) :
    (Builtin.append_ #[t, t] ty #[v, .slice none 0 c]).run Try.prog w = .ok v w := by
  rcases hown.2 with ⟨rfl, rfl⟩ | ⟨g, cap, cur, rfl, _, _, hnc, _⟩
  · simp [Builtin.append_, run_underlying ht, sizeOf, typeInfo, hi, Builtin.lenOf, Builtin.firstCells]
  · simp [Builtin.append_, run_underlying ht, sizeOf, typeInfo, hi, Builtin.lenOf, Builtin.firstCells, hnc, storeCells]
theorem rngs_wf {w : World} {A : Option Addr} {l : List Rn} (h : Rngs w A l) {x : Rn} (hx : x ∈ l) : x.Wf := by
  obtain ⟨j, hj, he⟩ := List.mem_iff_getElem.1 hx
  obtain ⟨b, o, _, hc⟩ := h (by omega)
  exact (hc j x (by rw [List.getElem?_eq_getElem hj, he])).1
theorem own_form {w : World} {base : Nat} {e : TypeId} {size n : Nat} {v : Value} {xs : List Value} (h : w.ownsRow base e size v n xs) : ∃ A c, v = .slice A n c := by
  rcases h.2 with ⟨rfl, rfl⟩ | ⟨g, cap, cur, rfl, _⟩
  · exact ⟨_, _, rfl⟩
  · exact ⟨_, _, rfl⟩
theorem own_some {w : World} {base : Nat} {e : TypeId} {size n c : Nat} {A : Option Addr} {xs : List Value} (h : w.ownsRow base e size (.slice A n c) n xs) (hn : 0 < n) :
    ∃ g cur, A = some ⟨g, 0, none⟩ ∧ base ≤ g ∧ Blk w g e cur ∧ cur.toList.take (n * size) = xs := by
  rcases h.2 with ⟨_, h0⟩ | ⟨g, cap, cur, hv, hg0, hg, _, _, _, ht⟩
  · omega
  · injection hv with hA _ _
    exact ⟨g, cur, hA, hg0, hg, ht⟩
theorem infoRg : (Try.prog.info? 58).map (fun i => (i.zero, i.size, i.bytes)) = some (some (.agg #[.int .i64 0, .int .i64 0]), 2, 16) := by kernel_rfl
theorem rngs_of_own {w : World} {base n : Nat} {v : Value} {l : List Rn} (h : w.ownsRow base 58 2 v n (rcs l)) (hln : l.length = n) (hwf : ∀ x ∈ l, x.Wf) : ∃ A c, v = .slice A l.length c ∧ Rngs w A l ∧ (0 < l.length → ∀ a, A = some a → base ≤ a.block) := by
  obtain ⟨A, c, rfl⟩ := own_form h
  subst hln
  refine ⟨A, c, rfl, fun hn => ?_, fun hn a ha => ?_⟩
  · obtain ⟨g, cur, rfl, _, hg, ht⟩ := own_some h hn
    refine ⟨g, 0, rfl, fun j r hj => ?_⟩
    have hlt := (List.getElem?_eq_some_iff.1 hj).1
    obtain ⟨g0, g1⟩ := rcs_get hj
    have key : ∀ i v, i < l.length * 2 → (rcs l)[i]? = some v → cur[i]? = some v := fun i v hi hv => by
      rw [← ht, List.getElem?_take, if_pos (by omega)] at hv
      simpa using hv
    have hb : Blk w g 58 cur := hg
    exact ⟨hwf r (List.mem_of_getElem? hj), by rw [Nat.zero_add, hb.cell]; exact key _ _ (by omega) g0, by rw [Nat.zero_add, hb.cell]; exact key _ _ (by omega) g1⟩
  · subst ha
    exact (h.lt a.block rfl).1
/-- 'append([]api.Range{}, l...)'. -/
theorem wpList_append_rngs {ops : Array Oper} {rest : List Oper} {o : Oper} {a : Act} {w : World} {Q : Exit → Act → World → Prop} (hgd : o.guard = none) (s x : Operand)
    (ho : o.op = .call { callee := .builtin .append, args := #[s, x], argTypes := #[33, 33] }) (B : Nat) (v : Value) (hs : a.eval s = v) (hown : w.ownsRow B 58 2 v 0 [])
    (A : Option Addr) (c : Nat) (l : List Rn) (hx : a.eval x = .slice A l.length c) (hl : Rngs w A l) (hm : l.length ≤ 100000) (hB : B ≤ w.heap.size)
    (h : ∀ A' c' w', Rngs w' A' l → w.grownBy w' v.ownBlock → (0 < l.length → ∀ a, A' = some a → B ≤ a.block) → wpList Try.prog ops Q rest (a.put o.dst (.slice A' l.length c')) w') : wpList Try.prog ops Q (o :: rest) a w := by
  obtain ⟨i0, hi0, hz0, hz1, hz2⟩ := info_parts infoRg
  have key : ∃ v' w', (Builtin.append_ #[33, 33] o.type #[v, .slice A l.length c]).run Try.prog w = .ok v' w' ∧ w'.ownsRow B 58 2 v' l.length (rcs l) ∧ w.grownBy w' v.ownBlock := by
    cases A with
    | none =>
      have h0 : l = [] := by
        cases l with
        | nil => rfl
        | cons k ks =>
          obtain ⟨b, o, e, _⟩ := hl (by simp)
          cases e
      subst h0
      exact ⟨v, w, run_append_none w o.type B 58 i0 33 Try.underlying33 hi0 v 0 2 [] hown c, hown, World.grownBy.refl w _⟩
    | some ad =>
      have hc : ∀ j u, (rcs l)[j]? = some u → w.cell? (ad.add j) = some u := by
        intro j u hu
        have hlt := (List.getElem?_eq_some_iff.1 hu).1
        rw [rcs_length] at hlt
        obtain ⟨b, o, e, hc⟩ := hl (by omega)
        obtain rfl : ad = ⟨b, o, none⟩ := Option.some.inj e
        rw [Addr.add_lit]
        have hj2 : j / 2 < l.length := by omega
        have hr := List.getElem?_eq_getElem hj2
        obtain ⟨g0, g1⟩ := rcs_get hr
        obtain ⟨_, k0, k1⟩ := hc _ _ hr
        generalize hq : j / 2 = m at *
        rcases (show j = m * 2 ∨ j = m * 2 + 1 by omega) with e | e
        · subst e
          rw [g0] at hu
          rw [← Option.some.inj hu]
          exact k0
        · subst e
          rw [g1] at hu
          rw [← Option.some.inj hu]
          exact k1
      obtain ⟨v', w', h1, h2, h3, _, _⟩ := run_append_own_at (P := Try.prog) w B 33 o.type 58 i0 _ 2 16 Try.underlying33 hi0 hz0 hz1 hz2 rfl (by omega) v 0 [] hown ad l.length c (rcs l) (by rw [rcs_length]) hc rcs_one (by unfold maxLen; omega) (by omega) hB
      rw [Nat.zero_add, List.nil_append] at h2
      exact ⟨v', w', h1, h2, h3⟩
  obtain ⟨v', w', hr, h2, h3⟩ := key
  obtain ⟨A', c', rfl, hn, hb⟩ := rngs_of_own h2 rfl (fun x hx => rngs_wf hl hx)
  refine wpList_plain hgd fun K hK => ?_
  unfold Oper.wp execOp
  simp only [ho, resolve, invoke, builtin, Sem.run_bind, Sem.run_pure, Result.andThen_ok, List.map_toArray, List.map_cons, List.map_nil, hs, hx, hr]
  exact hK _ _ (h A' c' w' hn h3 hb)
theorem own_noneR (w : World) : (w.alloc (.cells #[] 58)).ownsRow w.heap.size 58 2 (.slice (some ⟨w.heap.size, 0, none⟩) 0 0) 0 [] := World.ownsRow_made w #[] 0 (Nat.le_refl _) (by decide) rfl
theorem copy_rngs (w : World) (A : Option Addr) (c : Nat) (l : List Rn) (hl : Rngs w A l) (hm : l.length ≤ 100000) :
    Calls Try.prog 15 #[.slice A l.length c] w fun e w' => ∃ A' c', e = .returned (.slice A' l.length c') ∧ Rngs w' A' l ∧ (0 < l.length → ∀ a, A' = some a → w.heap.size ≤ a.block) ∧ Below w.heap.size w w' := by
  have HAL := Lib.hid ((Below.refl w.heap.size w).alloc (Nat.le_refl _) (.cells #[] 58))
  have HL := Lib.hid (hl.below HAL.out)
  have HM := Lib.hid hm
  clear hl hm
  go_enter Try.func15, Try.ntmps15
  go_wp2_with (at_builtin; refine wpList_append_rngs rfl (.tmp 3) (.tmp 4) rfl w.heap.size (.slice (some ⟨w.heap.size, 0, none⟩) 0 0) rfl (own_noneR w) A c l rfl HL.out HM.out (by simp) ?_; intro A3 c3 w3 hn3 hg3 hb3; have H3 := Lib.hid hn3; have HG3 := Lib.hid hg3; have HB3 := Lib.hid hb3; clear hn3 hg3 hb3)
  have HB := Lib.hid (show Below w.heap.size w w3 from HAL.out.grown HG3.out (by simp) (fun k hk => Nat.le_of_eq (Option.some.inj hk)))
  go_ret
  exact ⟨A3, c3, rfl, H3.out, HB3.out, HB.out⟩
theorem below_drewN {B : Nat} {a b : World} (h : Below B a b) (n : Nat) : Below B a (b.drewN n) := ⟨h.os, h.tape, h.output, h.size, h.block⟩
set_option maxRecDepth 100000 in
set_option maxHeartbeats 2000000 in
theorem same_rngs (A1 A2 : Option Addr) (c1 c2 : Nat) (l : List Rn) (w : World) (h1 : Rngs w A1 l) (h2 : Rngs w A2 l) (hl : l.length ≤ 100000) :
    Calls Try.prog 20 #[.slice A1 l.length c1, .slice A2 l.length c2] w fun e w' => e = .returned (.bool true) ∧ Below w.heap.size w w' := by
  have H1 := Lib.hid h1; have H2 := Lib.hid h2; clear h1 h2
  go_enter Try.func20, Try.ntmps20
  go_wp2_with (fail)
  go_loopw [5] (fun i wr => ∃ k : Nat, i = .int .i64 k ∧ k ≤ l.length ∧ Below w.heap.size w wr) (fun i _ => l.length - (intOf i).toNat)
  case atStart => exact ⟨0, rfl, Nat.zero_le _, Below.refl _ _⟩
  case round =>
    obtain ⟨k, rfl, hk, hb⟩ := hrel
    have HB := Lib.hid hb; clear hb
    by_cases hlt : k < l.length
    · have hki : (k : Int) < l.length := by omega
      obtain ⟨b1, o1, x1, rfl, hat1, _, d1, d2⟩ := (H1.out.below HB.out).at_ hlt
      obtain ⟨b2, o2, x2, rfl, hat2, _, d4, d5⟩ := (H2.out.below HB.out).at_ hlt
      obtain rfl : x1 = x2 := by rw [hat1] at hat2; exact Option.some.inj hat2
      clear hat1 hat2
      have n1 : (x1.l != x1.l) = false := by simp
      have n2 : (x1.b != x1.b) = false := by simp
      go_upto_region 6 with (fail)
      go_quiet (fail)
      go_wp2_with (fail)
      go_roundw
      case rel => exact ⟨k + 1, by go_num, by omega, below_drewN HB.out _⟩
      case measure => simp [intOf]; omega
    · obtain rfl : k = l.length := by omega
      go_wp2
      go_ret
      exact ⟨rfl, HB.out⟩
end Go.Proofs.Ytgncllhhajjnlaa
