/- Registrations copied; a table by value; is it large? -/
import Derived.Test.YtdggipgieanpeaaDoorPrJ
import Derived.Maps.AppendAt
import Derived.Laws.OwnMore
import Derived.Deep.RegionHeld3
import Derived.Deep.MidRow
import Derived.BigQuiet
namespace Go.Proofs.YtdggipgieanpeaaDoor
open Go.RowKit
def rks : List Rk → List Value
  | [] => []
  | r :: l => .string r.h :: .int .u64 (r.k : Int) :: rks l
theorem rks_length : ∀ l : List Rk, (rks l).length = l.length * 2
  | [] => rfl
  | r :: l => by show (rks l).length + 1 + 1 = (l.length + 1) * 2; rw [rks_length l]; omega
theorem rks_get : ∀ {l : List Rk} {j : Nat} {r : Rk}, l[j]? = some r → (rks l)[j * 2]? = some (.string r.h) ∧ (rks l)[j * 2 + 1]? = some (.int .u64 (r.k : Int))
  | y :: l, 0, r, h => by
    obtain rfl : y = r := by simpa using h
    exact ⟨rfl, rfl⟩
  | y :: l, j + 1, r, h => by
    obtain ⟨h1, h2⟩ := rks_get (l := l) (j := j) (r := r) (by simpa using h)
    rw [show (j + 1) * 2 = j * 2 + 1 + 1 by omega]
    exact ⟨by simpa [rks] using h1, by simpa [rks] using h2⟩
theorem rks_one {l : List Rk} : ∀ u ∈ rks l, u.oneCell' = true := by
  induction l with
  | nil => intro u hu; cases hu
  | cons r l ih =>
    intro u hu
    rcases List.mem_cons.1 hu with rfl | hu
    · rfl
    · rcases List.mem_cons.1 hu with rfl | hu
      · rfl
      · exact ih u hu
theorem run_append_none (w : World) (ty : TypeId) (base e : Nat) (i : TypeInfo) (t : TypeId) (ht : Tryd.prog.underlying t = some (.slice e)) (hi : Tryd.prog.info? e = some i) (v : Value) (n size : Nat) (xs : List Value) (hown : w.ownsRow base e size v n xs) (c : Nat) :
    (Builtin.append_ #[t, t] ty #[v, .slice none 0 c]).run Tryd.prog w = .ok v w := by
  rcases hown.2 with ⟨rfl, rfl⟩ | ⟨g, cap, cur, rfl, _, _, hnc, _⟩
  · simp [Builtin.append_, run_underlying ht, sizeOf, typeInfo, hi, Builtin.lenOf, Builtin.firstCells]
  · simp [Builtin.append_, run_underlying ht, sizeOf, typeInfo, hi, Builtin.lenOf, Builtin.firstCells, hnc, storeCells]
theorem rks_wf {w : World} {A : Option Addr} {l : List Rk} (h : Rks w A l) {x : Rk} (hx : x ∈ l) : x.Wf := by
  obtain ⟨j, hj, he⟩ := List.mem_iff_getElem.1 hx
  obtain ⟨b, o, _, hc⟩ := h (by omega)
  exact (hc j x (by rw [List.getElem?_eq_getElem hj, he])).1
theorem own_form {w : World} {base : Nat} {e : TypeId} {size n : Nat} {v : Value} {xs : List Value} (h : w.ownsRow base e size v n xs) : ∃ A c, v = .slice A n c := by
  rcases h.2 with ⟨rfl, rfl⟩ | ⟨g, cap, cur, rfl, _⟩
  · exact ⟨_, _, rfl⟩
  · exact ⟨_, _, rfl⟩
theorem own_some {w : World} {base : Nat} {e : TypeId} {size n c : Nat} {A : Option Addr} {xs : List Value} (h : w.ownsRow base e size (.slice A n c) n xs) (hn : 0 < n) :
    ∃ g cur, A = some ⟨g, 0, none⟩ ∧ base ≤ g ∧ Blk w g e cur ∧ cur.toList.take (n * size) = xs := by
  rcases h.2 with ⟨_, h0⟩ | ⟨g, cap, cur, hv, hg0, hg, _, _, _, ht⟩
  · omega
  · injection hv with hA _ _
    exact ⟨g, cur, hA, hg0, hg, ht⟩
theorem infoRk : (Tryd.prog.info? 36).map (fun i => (i.zero, i.size, i.bytes)) = some (some (.agg #[.string ⟨#[]⟩, .int .u64 0]), 2, 24) := by kernel_rfl
theorem rks_of_own {w : World} {base n : Nat} {v : Value} {l : List Rk} (h : w.ownsRow base 36 2 v n (rks l)) (hln : l.length = n) (hwf : ∀ x ∈ l, x.Wf) : ∃ A c, v = .slice A l.length c ∧ Rks w A l ∧ (0 < l.length → ∀ a, A = some a → base ≤ a.block) := by
  obtain ⟨A, c, rfl⟩ := own_form h
  subst hln
  refine ⟨A, c, rfl, fun hn => ?_, fun hn a ha => ?_⟩
  · obtain ⟨g, cur, rfl, _, hg, ht⟩ := own_some h hn
    refine ⟨g, 0, rfl, fun j r hj => ?_⟩
    have hlt := (List.getElem?_eq_some_iff.1 hj).1
    obtain ⟨g0, g1⟩ := rks_get hj
    have key : ∀ i v, i < l.length * 2 → (rks l)[i]? = some v → cur[i]? = some v := fun i v hi hv => by
      rw [← ht, List.getElem?_take, if_pos (by omega)] at hv
      simpa using hv
    have hb : Blk w g 36 cur := hg
    exact ⟨hwf r (List.mem_of_getElem? hj), by rw [Nat.zero_add, hb.cell]; exact key _ _ (by omega) g0, by rw [Nat.zero_add, hb.cell]; exact key _ _ (by omega) g1⟩
  · subst ha
    exact (h.lt a.block rfl).1
theorem own_cap {w : World} {base n m c : Nat} {A : Option Addr} {xs : List Value} (h : w.ownsRow base 36 2 (.slice A m c) n xs) : m ≤ c := by
  rcases h.2 with ⟨hv, _⟩ | ⟨g, cap, cur, hv, _, _, hc, _⟩
  · injection hv with _ h1 h2; omega
  · injection hv with _ h1 h2; omega
theorem run_append_rks (w : World) (ty : TypeId) (B : Nat) (v : Value) (hown : w.ownsRow B 36 2 v 0 []) (A : Option Addr) (c : Nat) (l : List Rk) (hl : Rks w A l) (hm : l.length ≤ 100000) (hB : B ≤ w.heap.size) :
    ∃ A' c' w', (Builtin.append_ #[22, 22] ty #[v, .slice A l.length c]).run Tryd.prog w = .ok (.slice A' l.length c') w' ∧ Rks w' A' l ∧ w.grownBy w' v.ownBlock ∧ (0 < l.length → ∀ a, A' = some a → B ≤ a.block) ∧ l.length ≤ c' := by
  obtain ⟨i0, hi0, hz0, hz1, hz2⟩ := info_parts infoRk
  have key : ∃ v' w', (Builtin.append_ #[22, 22] ty #[v, .slice A l.length c]).run Tryd.prog w = .ok v' w' ∧ w'.ownsRow B 36 2 v' l.length (rks l) ∧ w.grownBy w' v.ownBlock := by
    cases A with
    | none =>
      have h0 : l = [] := by
        cases l with
        | nil => rfl
        | cons k ks =>
          obtain ⟨b, o, e, _⟩ := hl (by simp)
          cases e
      subst h0
      exact ⟨v, w, run_append_none w ty B 36 i0 22 Tryd.underlying22 hi0 v 0 2 [] hown c, hown, World.grownBy.refl w _⟩
    | some ad =>
      have hc : ∀ j u, (rks l)[j]? = some u → w.cell? (ad.add j) = some u := by
        intro j u hu
        have hlt := (List.getElem?_eq_some_iff.1 hu).1
        rw [rks_length] at hlt
        obtain ⟨b, o, e, hc⟩ := hl (by omega)
        obtain rfl : ad = ⟨b, o, none⟩ := Option.some.inj e
        rw [Addr.add_lit]
        have hj2 : j / 2 < l.length := by omega
        have hr := List.getElem?_eq_getElem hj2
        obtain ⟨g0, g1⟩ := rks_get hr
        obtain ⟨_, k0, k1⟩ := hc _ _ hr
        generalize hq : j / 2 = m at *
        rcases (show j = m * 2 ∨ j = m * 2 + 1 by omega) with e | e
        · subst e
          rw [g0] at hu
          rw [← Option.some.inj hu]
          exact k0
        · subst e
          rw [g1] at hu
          rw [← Option.some.inj hu]
          exact k1
      obtain ⟨v', w', h1, h2, h3, _, _⟩ := run_append_own_at (P := Tryd.prog) w B 22 ty 36 i0 _ 2 24 Tryd.underlying22 hi0 hz0 hz1 hz2 rfl (by omega) v 0 [] hown ad l.length c (rks l) (by rw [rks_length]) hc rks_one (by unfold maxLen; omega) (by omega) hB
      rw [Nat.zero_add, List.nil_append] at h2
      exact ⟨v', w', h1, h2, h3⟩
  obtain ⟨v', w', hr, h2, h3⟩ := key
  obtain ⟨A', c', rfl, hn, hb⟩ := rks_of_own h2 rfl (fun x hx => rks_wf hl hx)
  exact ⟨A', c', w', hr, hn, h3, hb, own_cap h2⟩
theorem own_noneK (w : World) : (w.alloc (.cells #[] 36)).ownsRow w.heap.size 36 2 (.slice (some ⟨w.heap.size, 0, none⟩) 0 0) 0 [] := World.ownsRow_made w #[] 0 (Nat.le_refl _) (by decide) rfl
section
variable {P : Program} {ops : Array Oper} {S : World → Prop} {o : Oper} {a : Act} {w : World} {K : Act → World → Prop} {Q : Exit → Act → World → Prop} {E : Prop}
theorem takeH {md : Region.Mode} {i : Nat} {oi : Oper} {v : Value} {fuel : Nat} {listed : Array Bool} (hi : ops[i]? = some oi)
    (hs : Region.noSelect ops = true) (hf : Region.free md ops listed i = true) (hr : (Region.ready md ops listed).contains i = true)
    (hQ : ∀ c a w, Q (.panic c) (a.put oi.dst v) w → Q (.panic c) a w) (d0 : Option Tmp) (hd0 : oi.dst = d0) (hy : YieldsIf P ops S oi v a) (hS : S w)
    (h : wpAnyH P md ops Q S fuel (listed.setIfInBounds i true) (a.put d0 v) w) : wpAnyH P md ops Q S (fuel + 1) listed a w := by
  subst hd0
  exact wpAnyH_take hi hs hf hr hQ hy hS h
theorem step_alloc (hw : Region.wanted o (yielded ops a.tmps) = true) (v : Value) (w' : World) (hr : (execOp a.eval o).run P w = .ok (.value v) w') (d0 : Option Tmp) (hd0 : o.dst = d0) (h : K (a.put d0 v) w') :
    if Region.wanted o (yielded ops a.tmps) = true then Oper.wp P o a w K Q else E := by
  subst hd0
  rw [if_pos hw]
  unfold Oper.wp
  rw [hr, Oper.upon_value]
  exact h
theorem step_call2 (hw : Region.wanted o (yielded ops a.tmps) = true) (f : Nat) (x y : Operand) (ty : Array TypeId) (ho : o.op = .call { callee := .value (.func f), args := #[x, y], argTypes := ty })
    (u v : Value) (hx : a.eval x = u) (hy : a.eval y = v) (hcf : ∀ args v, (callFunc f args).run P v = .ok (.enter f args) v) (post : Ending → World → Prop) (hc : Calls P f #[u, v] w post) (d0 : Option Tmp) (hd0 : o.dst = d0) (h : ∀ e w', post e w' → ∃ v, e = .returned v ∧ K (a.put d0 v) w') :
    if Region.wanted o (yielded ops a.tmps) = true then Oper.wp P o a w K Q else E := by
  subst hd0
  rw [if_pos hw]
  have hr : (execOp a.eval o).run P w = .ok (.enter f #[u, v]) w := by
    unfold execOp
    simp only [ho, resolve, invoke, Sem.run_bind, List.map_toArray, List.map_cons, List.map_nil, hx, hy]
    simp [go_sem, hcf]
  unfold Oper.wp
  rw [hr, Oper.upon_enter]
  refine hc.mono ?_
  intro e w' hp
  obtain ⟨v, rfl, hk⟩ := h e w' hp
  exact hk
end
section
variable {P : Program} {ops : Array Oper} {S : World → Prop} {o : Oper} {a : Act} {w : World} {K : Act → World → Prop} {Q : Exit → Act → World → Prop} {E : Prop}
theorem step_enter (hw : Region.wanted o (yielded ops a.tmps) = true) (f : Nat) (args : Array Value) (hr : (execOp a.eval o).run P w = .ok (.enter f args) w) (post : Ending → World → Prop) (hc : Calls P f args w post) (d0 : Option Tmp) (hd0 : o.dst = d0) (h : ∀ e w', post e w' → ∃ v, e = .returned v ∧ K (a.put d0 v) w') :
    if Region.wanted o (yielded ops a.tmps) = true then Oper.wp P o a w K Q else E := by
  subst hd0
  rw [if_pos hw]
  unfold Oper.wp
  rw [hr, Oper.upon_enter]
  refine hc.mono ?_
  intro e w' hp
  obtain ⟨v, rfl, hk⟩ := h e w' hp
  exact hk
theorem step_append (hw : Region.wanted o (yielded ops a.tmps) = true) (s x : Operand) (t1 t2 : TypeId) (ho : o.op = .call { callee := .builtin .append, args := #[s, x], argTypes := #[t1, t2] })
    (vs vx v' : Value) (hs : a.eval s = vs) (hx : a.eval x = vx) (ty : TypeId) (hty : o.type = ty) (w' : World) (hr : (Builtin.append_ #[t1, t2] ty #[vs, vx]).run P w = .ok v' w') (d0 : Option Tmp) (hd0 : o.dst = d0) (h : K (a.put d0 v') w') :
    if Region.wanted o (yielded ops a.tmps) = true then Oper.wp P o a w K Q else E := by
  subst hd0 hty
  rw [if_pos hw]
  unfold Oper.wp execOp
  simp only [ho, resolve, invoke, builtin, Sem.run_bind, Sem.run_pure, Result.andThen_ok, List.map_toArray, List.map_cons, List.map_nil, hs, hx, hr]
  exact h
end
/-- A table. -/
abbrev tbC (A : Option Addr) (n c : Nat) (ty : Int) (ho : ByteArray) (ge : Nat) (ap : Bool) : Array Value := #[.slice A n c, .int .i64 ty, .string ho, .int .u32 (ge : Int), .bool ap]
abbrev tbV (A : Option Addr) (n c : Nat) (ty : Int) (ho : ByteArray) (ge : Nat) (ap : Bool) : Value := .agg (tbC A n c ty ho ge ap)
theorem tb_info : (Tryd.prog.info? 27).map (·.size) = some 5 := by kernel_rfl
/-- What Large answers: if not, there are few. -/
def LgK (n : Nat) (ho : ByteArray) (w : World) (e : Ending) (w' : World) : Prop := ∃ r : Bool, e = .returned (.bool r) ∧ (r = false → n ≤ 200 ∧ ho.size ≤ 1000) ∧ Below w.heap.size w w'
set_option maxRecDepth 100000 in
set_option maxHeartbeats 4000000 in
theorem largeT_any (A : Option Addr) (n c : Nat) (ty : Int) (ho : ByteArray) (ge : Nat) (ap : Bool) (l : List Rk) (hn : n = l.length) (w : World) (hl : Rks w A l) : Calls Tryd.prog 4 #[tbV A n c ty ho ge ap] w (LgK n ho w) := by
  have HX := Lib.hid (Blk.new w 27 (tbC A n c ty ho ge ap))
  have HB := Lib.hid ((Below.refl w.heap.size w).alloc (Nat.le_refl _) (.cells (tbC A n c ty ho ge ap) 27))
  have HL := Lib.hid (hl.below HB.out)
  by_cases h0 : 200 < n
  · have q0 : (200 : Int) < (n : Int) := by omega
    clear hn hl h0
    go_enter Tryd.func4, Tryd.ntmps4
    go_upto_region 1 with (fail)
    change Code.wp _ _ _ _ (w.alloc (.cells (tbC A n c ty ho ge ap) 27))
    generalize w.alloc (.cells (tbC A n c ty ho ge ap) 27) = v0 at *
    obtain ⟨p, hp⟩ : ∃ p, p = w.heap.size := ⟨_, rfl⟩
    rw [← hp] at HX ⊢
    clear hp
    have c0 : v0.cell? ⟨p, 0, none⟩ = some (.slice A n c) := HX.out.cell 0
    have c2 : v0.cell? ⟨p, 2, none⟩ = some (.string ho) := HX.out.cell 2
    go_wp2_with (fail)
    go_ret
    exact ⟨true, rfl, (fun h => by cases h), HB.out⟩
  · have q0 : ¬ (200 : Int) < (n : Int) := by omega
    by_cases h1 : 1000 < ho.size
    · have q1 : (1000 : Int) < (ho.size : Int) := by omega
      clear hn hl h0 h1
      go_enter Tryd.func4, Tryd.ntmps4
      go_upto_region 1 with (fail)
      change Code.wp _ _ _ _ (w.alloc (.cells (tbC A n c ty ho ge ap) 27))
      generalize w.alloc (.cells (tbC A n c ty ho ge ap) 27) = v0 at *
      obtain ⟨p, hp⟩ : ∃ p, p = w.heap.size := ⟨_, rfl⟩
      rw [← hp] at HX ⊢
      clear hp
      have c0 : v0.cell? ⟨p, 0, none⟩ = some (.slice A n c) := HX.out.cell 0
      have c2 : v0.cell? ⟨p, 2, none⟩ = some (.string ho) := HX.out.cell 2
      go_wp2_with (fail)
      go_ret
      exact ⟨true, rfl, (fun h => by cases h), HB.out⟩
    · have q1 : ¬ (1000 : Int) < (ho.size : Int) := by omega
      have HS := Lib.hid (show n ≤ 200 ∧ ho.size ≤ 1000 by omega)
      have HN := Lib.hid hn
      clear hn hl h0 h1
      go_enter Tryd.func4, Tryd.ntmps4
      go_upto_region 1 with (fail)
      change Code.wp _ _ _ _ (w.alloc (.cells (tbC A n c ty ho ge ap) 27))
      generalize w.alloc (.cells (tbC A n c ty ho ge ap) 27) = v0 at *
      obtain ⟨p, hp⟩ : ∃ p, p = w.heap.size := ⟨_, rfl⟩
      rw [← hp] at HX ⊢
      clear hp
      have c0 : v0.cell? ⟨p, 0, none⟩ = some (.slice A n c) := HX.out.cell 0
      have c2 : v0.cell? ⟨p, 2, none⟩ = some (.string ho) := HX.out.cell 2
      go_wp2_with (fail)
      clear c2 q0 q1
      go_loop [3] (fun i => ∃ k : Nat, k ≤ n ∧ i = .int .i64 k) (fun i => n - (intOf i).toNat)
      case atStart => exact ⟨0, Nat.zero_le _, rfl⟩
      case round =>
        obtain ⟨k, hk, rfl⟩ := hrel
        by_cases hlt : (k : Int) < (n : Int)
        · obtain ⟨b, o, x, rfl, hx, hwf, d0, d1⟩ := HL.out.at_ (j := k) (by have := HN.out; omega)
          clear hx hwf d1
          have hwr : wrap64 ((k : Int) + 1) = ((k + 1 : Nat) : Int) := by rw [IntWalk.wrap64_in _ (by have := HS.out; omega)]; omega
          have hwq := Lib.hid hwr; clear hwr
          by_cases hz : 1000 < x.h.size
          · have qz : (1000 : Int) < (x.h.size : Int) := by omega
            go_wp2_with (fail)
            go_ret
            exact ⟨true, rfl, (fun h => by cases h), HB.out⟩
          · have qz : ¬ (1000 : Int) < (x.h.size : Int) := by omega
            go_wp2_with (fail)
            have hwr := hwq.out
            go_round
            case rel => exact ⟨k + 1, by omega, by rw [hwr]⟩
            case measure => rw [hwr]; simp only [intOf, Int.toNat_natCast]; omega
        · go_wp2_with (fail)
          go_ret
          exact ⟨false, rfl, (fun _ => HS.out), HB.out⟩
end Go.Proofs.YtdggipgieanpeaaDoor
