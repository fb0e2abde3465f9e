/- An append of whatever source, nothing too, in a region that draws; what the document's Add leaves. -/
import Derived.Test.YtacogfllnhopoaaUnY
import Derived.Deep.Upon
namespace Go.Proofs.Ytacogfllnhopoaa
open Go.RowKit Go.Maps
/-- What is appended: m elements, news, out of the slice sv. -/
def SrcAt (w : World) (sv : Value) (m size : Nat) (news : List Value) : Prop :=
  news.length = m * size ∧ (∀ u ∈ news, u.oneCell' = true) ∧ ((m = 0 ∧ ∃ c, sv = .slice none 0 c) ∨ ∃ ad c, sv = .slice (some ad) m c ∧ ∀ j u, news[j]? = some u → w.cell? (ad.add j) = some u)
theorem SrcAt.below {w w' : World} {sv : Value} {m size : Nat} {news : List Value} (h : SrcAt w sv m size news) (hb : Below w.heap.size w w') : SrcAt w' sv m size news := by
  obtain ⟨h1, h2, h3⟩ := h
  refine ⟨h1, h2, ?_⟩
  rcases h3 with h3 | ⟨ad, c, h3, h4⟩
  · exact .inl h3
  · exact .inr ⟨ad, c, h3, fun j u hu => (World.cell?_of_block (hb.block _ (World.block_lt_of_cell? w _ (h4 j u hu)))).trans (h4 j u hu)⟩
section
variable {P : Program} (w : World)
theorem run_app (t ty : TypeId) (base : Nat) (e : TypeId) (i : TypeInfo) (z : Value) (size bytes : Nat) (ht : P.underlying t = some (.slice e)) (hi : P.info? e = some i) (hz : i.zero = some z)
    (hsize : i.size = size) (hby : i.bytes = bytes) (hzs : z.cells.size = size) (hsz : 0 < size)
    {A : Option Addr} {n c : Nat} (xs : List Value) (hown : w.ownsRow base e size (.slice A n c) n xs)
    (sv : Value) (m : Nat) (news : List Value) (hs : SrcAt w sv m size news) (h63 : n + m ≤ maxLen) (hbytes : (n + m) * bytes ≤ 140737488355328) (hbase : base ≤ w.heap.size) :
    ∃ A' c' w', (Builtin.append_ #[t, t] ty #[.slice A n c, sv]).run P w = .ok (.slice A' (n + m) c') w' ∧ w'.ownsRow base e size (.slice A' (n + m) c') (n + m) (xs ++ news) ∧ w.grownBy w' (Value.slice A n c).ownBlock := by
  obtain ⟨hl, h1, h2⟩ := hs
  rcases h2 with ⟨rfl, c0, rfl⟩ | ⟨ad, c0, rfl, hc⟩
  · have hn : news = [] := List.eq_nil_of_length_eq_zero (by simpa using hl)
    subst hn
    have hnc : n ≤ c := by
      rcases hown.2 with ⟨he, h0⟩ | ⟨g, cap, cur, he, _, _, hnc, _⟩
      · omega
      · cases he; exact hnc
    have hr := run_append_nothing (P := P) w t t ty e i ht hi A n c hnc (.slice none 0 c0) (Src.ofNil w ht c0)
    exact ⟨A, c, w, by simpa using hr, by simpa using hown, ⟨rfl, rfl, rfl, Nat.le_refl _, fun _ _ _ => rfl⟩⟩
  · obtain ⟨v', w', hr, h2, h3, _, _⟩ := run_append_own_at (P := P) w base t ty e i z size bytes ht hi hz hsize hby hzs hsz (.slice A n c) n xs hown ad m c0 news hl hc h1 h63 hbytes hbase
    rcases h2.2 with ⟨he, h0⟩ | ⟨g, cap, cur, he, _⟩
    · subst he
      rw [h0] at h2 ⊢
      exact ⟨none, 0, w', hr, h2, h3⟩
    · subst he
      exact ⟨_, cap, w', hr, h2, h3⟩
theorem step_app {ops : Array Oper} {o : Oper} {a : Act} {K : Act → World → Prop} {Q : Exit → Act → World → Prop} {E : Prop} (hgd : o.guard = none) (s x : Operand) (t : TypeId)
    (ho : o.op = .call { callee := .builtin .append, args := #[s, x], argTypes := #[t, t] })
    (base : Nat) (e : TypeId) (i : TypeInfo) (z : Value) (size bytes : Nat) (ht : P.underlying t = some (.slice e)) (hi : P.info? e = some i) (hz : i.zero = some z)
    (hsize : i.size = size) (hby : i.bytes = bytes) (hzs : z.cells.size = size) (hsz : 0 < size)
    (A : Option Addr) (n c : Nat) (xs : List Value) (hse : a.eval s = .slice A n c) (hown : w.ownsRow base e size (.slice A n c) n xs)
    (sv : Value) (hx : a.eval x = sv) (m : Nat) (news : List Value) (hs : SrcAt w sv m size news) (h63 : n + m ≤ maxLen) (hbytes : (n + m) * bytes ≤ 140737488355328) (hbase : base ≤ w.heap.size)
    (h : ∀ A' c' w', w'.ownsRow base e size (.slice A' (n + m) c') (n + m) (xs ++ news) → w.grownBy w' (Value.slice A n c).ownBlock → K (a.put o.dst (.slice A' (n + m) c')) w') :
    if Region.wanted o (yielded ops a.tmps) = true then Oper.wp P o a w K Q else E := by
  have hw : Region.wanted o (yielded ops a.tmps) = true := by simp [Region.wanted, hgd]
  rw [if_pos hw]
  obtain ⟨A', c', w', hr, h2, h3⟩ := run_app (P := P) w t o.type base e i z size bytes ht hi hz hsize hby hzs hsz xs hown sv m news hs h63 hbytes hbase
  unfold Oper.wp execOp
  simp only [ho, resolve, invoke, builtin, Sem.run_bind, Sem.run_pure, Result.andThen_ok, List.map_toArray, List.map_cons, List.map_nil, hse, hx, hr]
  exact h A' c' w' h2 h3
end
/-- An empty row, just made. -/
theorem own_none (w : World) (e : TypeId) (size : Nat) {base : Nat} (hb : base ≤ w.heap.size) : (w.alloc (.cells #[] e)).ownsRow base e size (.slice (some ⟨w.heap.size, 0, none⟩) 0 0) 0 [] :=
  ⟨by simp, .inr ⟨w.heap.size, 0, #[], rfl, hb, heap_alloc_new w _, Nat.le_refl _, Nat.zero_le _, by simp, by simp⟩⟩
theorem src_one (w : World) {b : Nat} {e : TypeId} {cs : Array Value} (h : Blk w b e cs) (h1 : ∀ u ∈ cs.toList, u.oneCell' = true) : SrcAt w (.slice (some ⟨b, 0, none⟩) 1 1) 1 cs.size cs.toList :=
  ⟨by simp, h1, .inr ⟨⟨b, 0, none⟩, 1, rfl, fun j u hu => by
    have := h.cell j
    have hadd : (⟨b, 0, none⟩ : Addr).add j = ⟨b, j, none⟩ := by unfold Addr.add; split <;> simp_all
    rw [hadd, this]
    simpa using hu⟩⟩
/-- What the document's Add leaves where it has put a row of its own into an entry. -/
theorem radd_end {mb : Nat} {w w5 : World} {G : Nat → Prop} {p : Nat} {l : List Wt} (hQ : Rq w G p l) (hg : GoodL l) (hlb : l.length ≤ mb) {k : Nat} {x : Wt} (hx : l[k]? = some x) {lu : Int} {ho : ByteArray} (hi : x.is lu ho) (hb : Below w.heap.size w w5)
    {A2 : Option Addr} {m c2 : Nat} {zs : List Int} (hm : zs.length = m) (h1 : 1 ≤ m) (h8 : m ≤ 8) (hown : w5.ownsRow w.heap.size 3 1 (.slice A2 m c2) m (zs.map (.int .i64))) {g : Nat} {c : Nat} (hc : w.cell? ⟨p, 0, none⟩ = some (.slice (some ⟨g, 0, none⟩) l.length c)) :
    ∀ V, V = w5.setCell ⟨g, k * 3 + 2, none⟩ (.slice A2 m c2) → RqOut mb G w p (upd (fq l) lu ho zs) V := by
  rintro V rfl
  obtain ⟨g2, dd, he, hb2, hl2, hI⟩ := Ints.of_own hown h1
  cases he
  have hQ5 : Rq w5 (fun j => G j ∨ j = g2) p l := (hQ.keep (S := nobody) (Only.of_below hb) (fun _ _ h => h)).mono (fun j hj => .inl hj) (fun j hj => by
    rcases hj with hj | rfl
    · obtain ⟨A', c', k1, k2, k3, k4, k5, k6⟩ := hQ
      exact Nat.lt_of_lt_of_le (k6 j hj) hb.size
    · exact hI.lt)
  have hp5 : w5.cell? ⟨p, 0, none⟩ = some (.slice (some ⟨g, 0, none⟩) l.length c) := (World.cell?_of_block (hb.block p (World.block_lt_of_cell? w ⟨p, 0, none⟩ hc))).trans hc
  have hok : WtOk w5 (fun j => G j ∨ j = g2) ⟨x.lu, x.ho, zs, some ⟨g2, 0, none⟩, c2⟩ := by
    obtain ⟨cur, k1, k2, k3, k4, k5⟩ := hI
    refine ⟨k3, fun _ => ⟨g2, 0, cur, rfl, .inr rfl, k1, fun i y hy => ?_⟩⟩
    have hy' : zs[i]? = some y := hy
    have hil : i < zs.length := (List.getElem?_eq_some_iff.1 hy').1
    have := congrArg (fun q => q[i]?) k5
    simp only [List.getElem?_take, hil, if_true, List.getElem?_map, hy'] at this
    simpa using this
  obtain ⟨h3, h4⟩ := hQ5.put (y := ⟨x.lu, x.ho, zs, some ⟨g2, 0, none⟩, c2⟩) hx rfl rfl hok rfl hp5
  have hgG : G g := by
    obtain ⟨A', c', k1, k2, k3, k4, k5, k6⟩ := hQ
    have e := k1.cell 0
    rw [hc] at e
    have e2 : Value.slice (some ⟨g, 0, none⟩) l.length c = Value.slice A' l.length c' := by simpa using e
    cases e2
    exact k4 g rfl
  have e1 : (Value.slice (some ⟨g2, 0, none⟩) zs.length c2) = .slice (some ⟨g2, 0, none⟩) m c2 := by rw [hm]
  have hV : w5.setCell ⟨g, k * 3 + 2, none⟩ (.slice (some ⟨g2, 0, none⟩) zs.length c2) = w5.setCell ⟨g, k * 3 + 2, none⟩ (.slice (some ⟨g2, 0, none⟩) m c2) := by rw [e1]
  refine ⟨((Only.of_below hb).setCell (p := ⟨g, k * 3 + 2, none⟩) (.inl hgG) _), fun j => G j ∨ j = g2, ⟨_, hV ▸ h3, ?_, ?_, by rw [List.length_set]; exact hlb⟩, fun j hj => ?_⟩
  · exact fq_set hg hx hi rfl rfl
  · exact hg.set hx rfl rfl (by show zs.length ≤ 8; omega)
  · rcases hj with hj | rfl
    · exact .inl hj
    · exact .inr hb2
end Go.Proofs.Ytacogfllnhopoaa
