/- Tables copied, compared, told too large; the statements' own first table. -/
import Derived.Test.YthedonkjnfeajaaDoorAcD
namespace Go.Proofs.YthedonkjnfeajaaDoor
open Go.RowKit
def rgCells : List Rg → List Value
  | [] => []
  | x :: l => .string x.h :: .int .u64 x.k :: rgCells l
theorem rgCells_length : ∀ l : List Rg, (rgCells l).length = l.length * 2
  | [] => rfl
  | x :: l => by show (rgCells l).length + 1 + 1 = (l.length + 1) * 2; rw [rgCells_length l]; omega
theorem rgCells_append : ∀ a b : List Rg, rgCells (a ++ b) = rgCells a ++ rgCells b
  | [], _ => rfl
  | x :: a, b => by show _ :: _ :: rgCells (a ++ b) = _; rw [rgCells_append a b]; rfl
theorem rgCells_get : ∀ {l : List Rg} {j : Nat} {x : Rg}, l[j]? = some x → (rgCells l)[j * 2]? = some (.string x.h) ∧ (rgCells l)[j * 2 + 1]? = some (.int .u64 x.k)
  | y :: l, 0, x, h => by
    obtain rfl : y = x := by simpa using h
    exact ⟨rfl, rfl⟩
  | y :: l, j + 1, x, h => by
    obtain ⟨h1, h2⟩ := rgCells_get (l := l) (j := j) (x := x) (by simpa using h)
    rw [show (j + 1) * 2 = j * 2 + 1 + 1 by omega]
    exact ⟨by simpa [rgCells] using h1, by simpa [rgCells] using h2⟩
theorem rgCells_one {l : List Rg} : ∀ u ∈ rgCells l, u.oneCell' = true := by
  induction l with
  | nil => intro u hu; cases hu
  | cons r l ih =>
    intro u hu
    rcases List.mem_cons.1 hu with rfl | hu
    · rfl
    · rcases List.mem_cons.1 hu with rfl | hu
      · rfl
      · exact ih u hu
theorem infoReg : (Tryd.prog.info? 48).map (fun i => (i.zero, i.size, i.bytes)) = some (some (.agg #[.string ⟨#[]⟩, .int .u64 0]), 2, 24) := by kernel_rfl
theorem own_form {w : World} {base : Nat} {e : TypeId} {size n : Nat} {v : Value} {xs : List Value} (h : w.ownsRow base e size v n xs) : ∃ A c, v = .slice A n c := by
  rcases h.2 with ⟨rfl, rfl⟩ | ⟨g, cap, cur, rfl, _⟩
  · exact ⟨_, _, rfl⟩
  · exact ⟨_, _, rfl⟩
theorem own_some {w : World} {base : Nat} {e : TypeId} {size n c : Nat} {A : Option Addr} {xs : List Value} (h : w.ownsRow base e size (.slice A n c) n xs) (hn : 0 < n) :
    ∃ g cur, A = some ⟨g, 0, none⟩ ∧ Blk w g e cur ∧ cur.toList.take (n * size) = xs := by
  rcases h.2 with ⟨_, h0⟩ | ⟨g, cap, cur, hv, _, hg, _, _, _, ht⟩
  · omega
  · injection hv with hA _ _
    exact ⟨g, cur, hA, hg, ht⟩
/-- Registrations of one's own. -/
def Own (w : World) (B : Nat) (A : Option Addr) (c : Nat) (l : List Rg) : Prop := w.ownsRow B 48 2 (.slice A l.length c) l.length (rgCells l) ∧ ∀ x ∈ l, x.h.size ≤ maxLen
theorem Own.rgs {w : World} {B : Nat} {A : Option Addr} {c : Nat} {l : List Rg} (h : Own w B A c l) : Rgs w A l := fun hn => by
  obtain ⟨g, cur, rfl, hg, ht⟩ := own_some h.1 hn
  refine ⟨g, 0, rfl, fun j r hj => ?_⟩
  have hlt := (List.getElem?_eq_some_iff.1 hj).1
  obtain ⟨g0, g1⟩ := rgCells_get hj
  have key : ∀ i v, i < l.length * 2 → (rgCells l)[i]? = some v → cur[i]? = some v := fun i v hi hv => by
    rw [← ht, List.getElem?_take, if_pos (by omega)] at hv
    simpa using hv
  exact ⟨h.2 r (List.mem_of_getElem? hj), by rw [Nat.zero_add, hg.cell]; exact key _ _ (by omega) g0, by rw [Nat.zero_add, hg.cell]; exact key _ _ (by omega) g1⟩
theorem own_keep' {w w' : World} {base : Nat} {e : TypeId} {size n : Nat} {v : Value} {xs : List Value} (h : w.ownsRow base e size v n xs) (hb : Below w.heap.size w w') : w'.ownsRow base e size v n xs :=
  own_keep h fun g hg => hb.block g (h.lt g hg).2
theorem Own.below {w w' : World} {B : Nat} {A : Option Addr} {c : Nat} {l : List Rg} (h : Own w B A c l) (hb : Below w.heap.size w w') : Own w' B A c l := ⟨own_keep' h.1 hb, h.2⟩
theorem Rgs.sizes {w : World} {A : Option Addr} {l : List Rg} (h : Rgs w A l) : ∀ x ∈ l, x.h.size ≤ maxLen := fun x hx => by
  obtain ⟨j, hj, rfl⟩ := List.getElem_of_mem hx
  obtain ⟨b, o, _, hc⟩ := h (by omega)
  exact (hc j _ (List.getElem?_eq_getElem hj)).1
theorem run_append_none (w : World) (ty : TypeId) (base e : Nat) (i : TypeInfo) (t : TypeId) (ht : Tryd.prog.underlying t = some (.slice e)) (hi : Tryd.prog.info? e = some i) (v : Value) (n size : Nat) (xs : List Value) (hown : w.ownsRow base e size v n xs) (c : Nat) :
    (Builtin.append_ #[t, t] ty #[v, .slice none 0 c]).run Tryd.prog w = .ok v w := by
  rcases hown.2 with ⟨rfl, rfl⟩ | ⟨g, cap, cur, rfl, _, _, hnc, _⟩
  · simp [Builtin.append_, run_underlying ht, sizeOf, typeInfo, hi, Builtin.lenOf, Builtin.firstCells]
  · simp [Builtin.append_, run_underlying ht, sizeOf, typeInfo, hi, Builtin.lenOf, Builtin.firstCells, hnc, storeCells]
theorem rgs_cells {w : World} {A : Option Addr} {l : List Rg} (h : Rgs w A l) (ad : Addr) (ha : A = some ad) : ∀ j u, (rgCells l)[j]? = some u → w.cell? (ad.add j) = some u := by
  intro j u hu
  have hlt : j < l.length * 2 := by have := (List.getElem?_eq_some_iff.1 hu).1; rw [rgCells_length] at this; exact this
  obtain ⟨b, o, e, hc⟩ := h (by omega)
  obtain rfl : ad = ⟨b, o, none⟩ := Option.some.inj (ha.symm.trans e)
  rw [Addr.add_lit]
  have hj2 : j / 2 < l.length := by omega
  have hr := List.getElem?_eq_getElem hj2
  obtain ⟨g0, g1⟩ := rgCells_get hr
  obtain ⟨_, k0, k1⟩ := hc _ _ hr
  generalize hq : j / 2 = m at *
  rcases (show j = m * 2 ∨ j = m * 2 + 1 by omega) with e | e
  · subst e
    rw [g0] at hu
    rw [← Option.some.inj hu]
    exact k0
  · subst e
    rw [g1] at hu
    rw [← Option.some.inj hu, ← Nat.add_assoc]
    exact k1
/-- 'append(v, l...)', v of one's own. -/
theorem wpList_append_rgs {ops : Array Oper} {rest : List Oper} {o : Oper} {a : Act} {w : World} {Q : Exit → Act → World → Prop} (hgd : o.guard = none) (s x : Operand)
    (ho : o.op = .call { callee := .builtin .append, args := #[s, x], argTypes := #[22, 22] }) (B : Nat) (A0 : Option Addr) (c0 : Nat) (l0 : List Rg) (hs : a.eval s = .slice A0 l0.length c0) (hown : Own w B A0 c0 l0)
    (A : Option Addr) (c : Nat) (l : List Rg) (hx : a.eval x = .slice A l.length c) (hl : Rgs w A l) (hm : l0.length + l.length ≤ 100000) (hB : B ≤ w.heap.size)
    (h : ∀ A' c' w', Own w' B A' c' (l0 ++ l) → w.grownBy w' (Value.slice A0 l0.length c0).ownBlock → wpList Tryd.prog ops Q rest (a.put o.dst (.slice A' (l0 ++ l).length c')) w') : wpList Tryd.prog ops Q (o :: rest) a w := by
  obtain ⟨i0, hi0, hz0, hz1, hz2⟩ := info_parts infoReg
  have key : ∃ v' w', (Builtin.append_ #[22, 22] o.type #[.slice A0 l0.length c0, .slice A l.length c]).run Tryd.prog w = .ok v' w' ∧ w'.ownsRow B 48 2 v' (l0 ++ l).length (rgCells (l0 ++ l)) ∧ w.grownBy w' (Value.slice A0 l0.length c0).ownBlock := by
    cases A with
    | none =>
      have h0 : l = [] := by
        cases l with
        | nil => rfl
        | cons k ks =>
          obtain ⟨b, o, e, _⟩ := hl (by simp)
          cases e
      subst h0
      rw [List.append_nil]
      exact ⟨_, w, run_append_none w o.type B 48 i0 22 Tryd.underlying22 hi0 _ l0.length 2 _ hown.1 c, hown.1, World.grownBy.refl w _⟩
    | some ad =>
      obtain ⟨v', w', h1, h2, h3, _, _⟩ := run_append_own_at (P := Tryd.prog) w B 22 o.type 48 i0 _ 2 24 Tryd.underlying22 hi0 hz0 hz1 hz2 rfl (by omega) _ l0.length _ hown.1 ad l.length c (rgCells l) (by rw [rgCells_length]) (rgs_cells hl ad rfl) rgCells_one (by unfold maxLen; omega) (by omega) hB
      rw [← rgCells_append] at h2
      rw [List.length_append]
      exact ⟨v', w', h1, h2, h3⟩
  obtain ⟨v', w', hr, h2, h3⟩ := key
  obtain ⟨A', c', rfl⟩ := own_form h2
  refine wpList_plain hgd fun K hK => ?_
  unfold Oper.wp execOp
  simp only [ho, resolve, invoke, builtin, Sem.run_bind, Sem.run_pure, Result.andThen_ok, List.map_toArray, List.map_cons, List.map_nil, hs, hx, hr]
  exact hK _ _ (h A' c' w' ⟨h2, fun y hy => (List.mem_append.1 hy).elim (hown.2 y) (hl.sizes y)⟩ h3)
theorem own_none (w : World) : Own (w.alloc (.cells #[] 48)) w.heap.size (some ⟨w.heap.size, 0, none⟩) 0 [] := ⟨World.ownsRow_made w #[] 0 (Nat.le_refl _) (by decide) rfl, fun x hx => by cases hx⟩
/-- The boxes of CopyTable. -/
theorem copy_box (w : World) (A : Option Addr) (c : Nat) (t : Tl) (z : Array Value) : ∀ v, v = (w.alloc (.cells (tlC A c t) 27)).alloc (.cells z 27) → Blk v w.heap.size 27 (tlC A c t) ∧ Blk v (w.heap.size + 1) 27 z ∧ Below w.heap.size w v ∧ v.heap.size = w.heap.size + 2 := by
  rintro v rfl
  refine ⟨(Blk.new w _ _).alloc _, ?_, ((Below.refl w.heap.size w).alloc (Nat.le_refl _) _).alloc (by simp) _, by simp⟩
  have := Blk.new (w.alloc (.cells (tlC A c t) 27)) 27 z
  simpa using this
abbrev tlZ : Array Value := #[.slice none 0 0, .int .i64 0, .string ⟨#[]⟩, .int .u32 0, .bool false]
theorem size27 : (Tryd.prog.info? 27).map (·.size) = some 5 := by kernel_rfl
set_option maxRecDepth 100000 in
set_option maxHeartbeats 2000000 in
theorem copy_any (A : Option Addr) (c : Nat) (t : Tl) (w : World) (hl : Rgs w A t.rs) (hm : t.rs.length ≤ 1000) :
    Calls Tryd.prog 10 #[tlV A c t] w fun e w' => ∃ A' c', e = .returned (tlV A' c' t) ∧ Own w' w.heap.size A' c' t.rs ∧ Below w.heap.size w w' := by
  obtain ⟨h1, h2, h3, h4⟩ := copy_box w A c t tlZ _ rfl
  have HT := Lib.hid h1; have HZ := Lib.hid h2; have HB := Lib.hid h3; have HS := Lib.hid h4
  have HL := Lib.hid (hl.below h3)
  have HM := Lib.hid hm
  clear h1 h2 h3 h4 hl hm
  go_enter Tryd.func10, Tryd.ntmps10
  go_upto_region 1 with (fail)
  change Code.wp _ _ _ _ ((w.alloc (.cells (tlC A c t) 27)).alloc (.cells tlZ 27))
  generalize (w.alloc (.cells (tlC A c t) 27)).alloc (.cells tlZ 27) = w0 at *
  have HA := Lib.hid ((Below.refl w0.heap.size w0).alloc (Nat.le_refl _) (.cells #[] 48))
  have HL1 := Lib.hid (HL.out.below HA.out)
  have HT1 := Lib.hid (HT.out.below HA.out HT.out.lt)
  have HZ1 := Lib.hid (HZ.out.below HA.out HZ.out.lt)
  have c0 : (w0.alloc (.cells #[] 48)).cell? ⟨w.heap.size, 0, none⟩ = some (.slice A t.rs.length c) := HT1.out.cell 0
  have hns : some w.heap.size ≠ some w0.heap.size := by rw [HS.out]; simp
  have hns1 : some (w.heap.size + 1) ≠ some w0.heap.size := by rw [HS.out]; simp
  have HNS := Lib.hid hns; have HNS1 := Lib.hid hns1
  clear hns hns1
  go_wp2_with (at_builtin; refine wpList_append_rgs rfl (.tmp 3) (.tmp 5) rfl w0.heap.size (some ⟨w0.heap.size, 0, none⟩) 0 [] rfl (own_none w0) A c t.rs rfl HL1.out (by have := HM.out; simp; omega) (by simp) ?_; intro A3 cc w3 hn3 hg3; have H3 := Lib.hid hn3; have HG3 := Lib.hid hg3; clear hn3 hg3 c0; have HT3 := Lib.hid (HT1.out.grown HG3.out HNS.out); have HZ3 := Lib.hid (HZ1.out.grown HG3.out HNS1.out); have c0 := HT3.out.cell 0; have f0 := HT3.out.free 0; have c1 : w3.cell? ⟨w.heap.size, 1, none⟩ = some (.int .i64 t.ty) := HT3.out.cell 1; have c2 : w3.cell? ⟨w.heap.size, 2, none⟩ = some (.string t.ho) := HT3.out.cell 2; have c3 : w3.cell? ⟨w.heap.size, 3, none⟩ = some (.int .u32 t.ge) := HT3.out.cell 3; have c4 : w3.cell? ⟨w.heap.size, 4, none⟩ = some (.bool t.ap) := HT3.out.cell 4; have d0 := HZ3.out.cell 0; have d1 := HZ3.out.cell 1; have d2 := HZ3.out.cell 2; have d3 := HZ3.out.cell 3; have d4 := HZ3.out.cell 4; have g0 := HZ3.out.free 0; have g1 := HZ3.out.free 1; have g2 := HZ3.out.free 2; have g3 := HZ3.out.free 3; have g4 := HZ3.out.free 4)
  have hne : w.heap.size ≠ w.heap.size + 1 := by omega
  have hV : ∀ V, V = ((((((w3.setCell ⟨w.heap.size, 0, none⟩ (.slice A3 t.rs.length cc)).setCell ⟨w.heap.size + 1, 0, none⟩ (.slice A3 t.rs.length cc)).setCell ⟨w.heap.size + 1, 1, none⟩ (.int .i64 t.ty)).setCell ⟨w.heap.size + 1, 2, none⟩ (.string t.ho)).setCell ⟨w.heap.size + 1, 3, none⟩ (.int .u32 t.ge)).setCell ⟨w.heap.size + 1, 4, none⟩ (.bool t.ap)) → Blk V (w.heap.size + 1) 27 (tlC A3 cc t) ∧ Only (fun k => k = w.heap.size ∨ k = w.heap.size + 1) w3 V := by
    rintro V rfl
    refine ⟨((((((HZ3.out.far (p := ⟨w.heap.size, 0, none⟩) (by simp) _).put 0 _).put 1 _).put 2 _).put 3 _).put 4 _), ?_⟩
    exact (((((((Only.refl _ _).setCell (.inl (.inl rfl)) _).setCell (.inl (.inr rfl)) _).setCell (.inl (.inr rfl)) _).setCell (.inl (.inr rfl)) _).setCell (.inl (.inr rfl)) _).setCell (.inl (.inr rfl)) _)
  obtain ⟨hK, hO⟩ := hV _ rfl
  have hO3 : Own _ w.heap.size A3 cc t.rs := ⟨own_base (own_keep H3.out.1 fun g hg => hO.block g (H3.out.1.lt g hg).2 (by have := (H3.out.1.lt g hg).1; rw [HS.out] at this; rintro (e | e) <;> omega)) (fun g hg => by have := (H3.out.1.lt g hg).1; rw [HS.out] at this; omega), H3.out.2⟩
  have hB3 : Below w.heap.size w w3 := (HB.out.trans (HA.out.mono HB.out.size)).grown HG3.out (Nat.le_trans HB.out.size HA.out.size) (fun k hk => by rw [← Option.some.inj hk]; exact HB.out.size)
  have hB : Below w.heap.size w _ := hB3.trans (hO.toBelow hB3.size (fun k hk => by rcases hk with e | e <;> omega))
  refine bodyPost_ret_by (results_cell_row rfl _ _ (w.heap.size + 1) 27 (tlC A3 cc t) (0, 0) _ rfl hK Tryd.underlying27 rfl size27) rfl ?_
  exact ⟨A3, cc, rfl, hO3, hB⟩
theorem below_drewN {B : Nat} {a b : World} (h : Below B a b) (n : Nat) : Below B a (b.drewN n) := ⟨h.os, h.tape, h.output, h.size, h.block⟩
set_option maxRecDepth 100000 in
set_option maxHeartbeats 2000000 in
theorem regs_same (A1 A2 : Option Addr) (c1 c2 : Nat) (l : List Rg) (w : World) (h1 : Rgs w A1 l) (h2 : Rgs w A2 l) (hl : l.length ≤ 100000) :
    Calls Tryd.prog 22 #[.slice A1 l.length c1, .slice A2 l.length c2] w fun e w' => e = .returned (.bool true) ∧ Below w.heap.size w w' := by
  have H1 := Lib.hid h1; have H2 := Lib.hid h2; clear h1 h2
  go_enter Tryd.func22, Tryd.ntmps22
  go_wp2_with (fail)
  go_loopw [5] (fun i wr => ∃ k : Nat, i = .int .i64 k ∧ k ≤ l.length ∧ Below w.heap.size w wr) (fun i _ => l.length - (intOf i).toNat)
  case atStart => exact ⟨0, rfl, Nat.zero_le _, Below.refl _ _⟩
  case round =>
    obtain ⟨k, rfl, hk, hb⟩ := hrel
    have HB := Lib.hid hb; clear hb
    by_cases hlt : k < l.length
    · have hki : (k : Int) < l.length := by omega
      obtain ⟨b1, o1, x1, rfl, hat1, _, d1, d2⟩ := (H1.out.below HB.out).at_ hlt
      obtain ⟨b2, o2, x2, rfl, hat2, _, d4, d5⟩ := (H2.out.below HB.out).at_ hlt
      obtain rfl : x1 = x2 := by rw [hat1] at hat2; exact Option.some.inj hat2
      clear hat1 hat2
      have n1 : (x1.h.toList != x1.h.toList) = false := by simp
      have n2 : (x1.k != x1.k) = false := by simp
      go_upto_region 6 with (fail)
      go_quiet (fail)
      go_wp2_with (fail)
      go_roundw
      case rel => exact ⟨k + 1, by go_num, by omega, below_drewN HB.out _⟩
      case measure => simp [intOf]; omega
    · obtain rfl : k = l.length := by omega
      go_wp2
      go_ret
      exact ⟨rfl, HB.out⟩
/-- The boxes of two tables that came in by value. -/
theorem two_tl (w : World) (A A' : Option Addr) (c c' : Nat) (t t' : Tl) : ∀ v, v = (w.alloc (.cells (tlC A c t) 27)).alloc (.cells (tlC A' c' t') 27) → Blk v w.heap.size 27 (tlC A c t) ∧ Blk v (w.heap.size + 1) 27 (tlC A' c' t') ∧ Below w.heap.size w v := by
  rintro v rfl
  refine ⟨(Blk.new w _ _).alloc _, ?_, ((Below.refl w.heap.size w).alloc (Nat.le_refl _) _).alloc (by simp) _⟩
  have := Blk.new (w.alloc (.cells (tlC A c t) 27)) 27 (tlC A' c' t')
  simpa using this
set_option maxRecDepth 100000 in
set_option maxHeartbeats 2000000 in
theorem tables_same (A1 A2 : Option Addr) (c1 c2 : Nat) (t : Tl) (w : World) (h1 : Rgs w A1 t.rs) (h2 : Rgs w A2 t.rs) (hl : t.rs.length ≤ 100000) :
    Calls Tryd.prog 13 #[tlV A1 c1 t, tlV A2 c2 t] w fun e w' => e = .returned (.bool true) ∧ Below w.heap.size w w' := by
  obtain ⟨k1, k2, k3⟩ := two_tl w A1 A2 c1 c2 t t _ rfl
  have HT1 := Lib.hid k1; have HT2 := Lib.hid k2; have HB := Lib.hid k3
  have H1 := Lib.hid (h1.below k3); have H2 := Lib.hid (h2.below k3); have HM := Lib.hid hl
  clear k1 k2 k3 h1 h2 hl
  go_enter Tryd.func13, Tryd.ntmps13
  go_upto_region 1 with (fail)
  change Code.wp _ _ _ _ ((w.alloc (.cells (tlC A1 c1 t) 27)).alloc (.cells (tlC A2 c2 t) 27))
  generalize (w.alloc (.cells (tlC A1 c1 t) 27)).alloc (.cells (tlC A2 c2 t) 27) = w0 at *
  have a0 : w0.cell? ⟨w.heap.size, 0, none⟩ = some (.slice A1 t.rs.length c1) := HT1.out.cell 0
  have b0 : w0.cell? ⟨w.heap.size + 1, 0, none⟩ = some (.slice A2 t.rs.length c2) := HT2.out.cell 0
  go_wp2_with (fail)
  refine (regs_same A1 A2 c1 c2 t.rs _ H1.out H2.out HM.out).mono ?_; rintro e w1 ⟨rfl, hb1⟩
  have HB1 := Lib.hid (HB.out.trans (hb1.mono HB.out.size))
  have HU1 := Lib.hid (HT1.out.below hb1 HT1.out.lt); have HU2 := Lib.hid (HT2.out.below hb1 HT2.out.lt)
  clear hb1 a0 b0
  have a1 : w1.cell? ⟨w.heap.size, 1, none⟩ = some (.int .i64 t.ty) := HU1.out.cell 1
  have a2 : w1.cell? ⟨w.heap.size, 2, none⟩ = some (.string t.ho) := HU1.out.cell 2
  have a3 : w1.cell? ⟨w.heap.size, 3, none⟩ = some (.int .u32 t.ge) := HU1.out.cell 3
  have a4 : w1.cell? ⟨w.heap.size, 4, none⟩ = some (.bool t.ap) := HU1.out.cell 4
  have b1 : w1.cell? ⟨w.heap.size + 1, 1, none⟩ = some (.int .i64 t.ty) := HU2.out.cell 1
  have b2 : w1.cell? ⟨w.heap.size + 1, 2, none⟩ = some (.string t.ho) := HU2.out.cell 2
  have b3 : w1.cell? ⟨w.heap.size + 1, 3, none⟩ = some (.int .u32 t.ge) := HU2.out.cell 3
  have b4 : w1.cell? ⟨w.heap.size + 1, 4, none⟩ = some (.bool t.ap) := HU2.out.cell 4
  have e1 : (t.ty == t.ty) = true := by simp
  have e2 : (t.ho.toList == t.ho.toList) = true := by simp
  have e3 : (t.ge == t.ge) = true := by simp
  have e4 : (t.ap == t.ap) = true := by simp
  go_wp2_with (fail)
  go_ret
  exact ⟨rfl, HB1.out⟩
def LgOut (n : Nat) (w : World) (e : Ending) (w' : World) : Prop := ∃ r : Bool, e = .returned (.bool r) ∧ (r = false → n ≤ 200) ∧ Below w.heap.size w w'
set_option maxRecDepth 100000 in
set_option maxHeartbeats 2000000 in
theorem large_any (A : Option Addr) (c : Nat) (t : Tl) (w : World) (hl : Rgs w A t.rs) (hm : t.rs.length ≤ maxLen) :
    Calls Tryd.prog 8 #[tlV A c t] w (LgOut t.rs.length w) := by
  unfold maxLen at hm
  obtain ⟨h1, h2, h3⟩ := tl_box w A c t _ rfl
  have HT := Lib.hid h1; have HB := Lib.hid h2
  have HL := Lib.hid (hl.below h2)
  clear h1 h2 h3 hl
  by_cases g1 : 200 < t.rs.length
  · have i1 : (200 : Int) < t.rs.length := by omega
    clear g1
    go_enter Tryd.func8, Tryd.ntmps8
    go_upto_region 1 with (fail)
    change Code.wp _ _ _ _ (w.alloc (.cells (tlC A c t) 27))
    generalize w.alloc (.cells (tlC A c t) 27) = w0 at *
    have c0 : w0.cell? ⟨w.heap.size, 0, none⟩ = some (.slice A t.rs.length c) := HT.out.cell 0
    have c2 : w0.cell? ⟨w.heap.size, 2, none⟩ = some (.string t.ho) := HT.out.cell 2
    go_wp2_with (fail)
    go_ret
    exact ⟨true, rfl, (fun h => by cases h), HB.out⟩
  · have i1 : ¬ (200 : Int) < t.rs.length := by omega
    by_cases g2 : 1000 < t.ho.size
    · have i2 : (1000 : Int) < t.ho.size := by omega
      clear g2
      go_enter Tryd.func8, Tryd.ntmps8
      go_upto_region 1 with (fail)
      change Code.wp _ _ _ _ (w.alloc (.cells (tlC A c t) 27))
      generalize w.alloc (.cells (tlC A c t) 27) = w0 at *
      have c0 : w0.cell? ⟨w.heap.size, 0, none⟩ = some (.slice A t.rs.length c) := HT.out.cell 0
      have c2 : w0.cell? ⟨w.heap.size, 2, none⟩ = some (.string t.ho) := HT.out.cell 2
      go_wp2_with (fail)
      go_ret
      exact ⟨true, rfl, (fun h => by cases h), HB.out⟩
    · have i2 : ¬ (1000 : Int) < t.ho.size := by omega
      have HG := Lib.hid (show t.rs.length ≤ 200 by omega)
      clear g1 g2
      go_enter Tryd.func8, Tryd.ntmps8
      go_upto_region 1 with (fail)
      change Code.wp _ _ _ _ (w.alloc (.cells (tlC A c t) 27))
      generalize w.alloc (.cells (tlC A c t) 27) = w0 at *
      have c0 : w0.cell? ⟨w.heap.size, 0, none⟩ = some (.slice A t.rs.length c) := HT.out.cell 0
      have c2 : w0.cell? ⟨w.heap.size, 2, none⟩ = some (.string t.ho) := HT.out.cell 2
      go_wp2_with (fail)
      go_loop [3] (fun i => ∃ k : Nat, k ≤ t.rs.length ∧ i = .int .i64 k) (fun i => t.rs.length - (intOf i).toNat)
      case atStart => exact ⟨0, Nat.zero_le _, rfl⟩
      case round =>
        obtain ⟨k, hk, rfl⟩ := hrel
        by_cases hlt : k < t.rs.length
        · obtain ⟨b, o, x, rfl, hx, hz, d0, d1⟩ := HL.out.at_ hlt
          clear hx
          by_cases g3 : 1000 < x.h.size
          · have i3 : (1000 : Int) < x.h.size := by omega
            clear g3
            go_wp2_with (fail)
            go_ret
            exact ⟨true, rfl, (fun h => by cases h), HB.out⟩
          · have i3 : ¬ (1000 : Int) < x.h.size := by omega
            clear g3
            go_wp2_with (fail)
            go_round
            case rel => exact ⟨k + 1, by omega, by go_num⟩
            case measure => simp [intOf]; omega
        · obtain rfl : k = t.rs.length := by omega
          go_wp2_with (fail)
          go_ret
          exact ⟨false, rfl, (fun _ => HG.out), HB.out⟩
/-- The statements' own table. -/
def wakT : Tl := ⟨[⟨⟨#[97]⟩, 1⟩, ⟨⟨#[98]⟩, 2⟩], 1, ⟨#[97]⟩, 0, false⟩
theorem wak_1 : mayB wakT ⟨#[98]⟩ 2 = true := by decide +kernel
theorem wak_2 : mayB wakT ⟨#[98]⟩ 3 = false := by decide +kernel
theorem wak_3 : mayB wakT ⟨#[97]⟩ 3 = true := by decide +kernel
theorem wak_4 : holdsB wakT ⟨#[97]⟩ = true := by decide +kernel
end Go.Proofs.YthedonkjnfeajaaDoor
