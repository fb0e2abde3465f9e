/- An entry more, in the order of hosts. -/
import Derived.Test.YtacogfllnhopoaaUnZ
import Derived.Sort.Walk0
namespace Go.Proofs.Ytacogfllnhopoaa
open Go.RowKit Go.Maps
theorem add_lit (g o j : Nat) : (⟨g, o, none⟩ : Addr).add j = ⟨g, o + j, none⟩ := by
  unfold Addr.add
  split <;> simp_all
/-- The list with an empty entry at k. -/
def insL (l : List Wt) (k : Nat) (lu : Int) (ho : ByteArray) : List Wt := l.take k ++ ⟨lu, ho, [], none, 0⟩ :: l.drop k
theorem insL_length {l : List Wt} {k : Nat} (hk : k ≤ l.length) (lu : Int) (ho : ByteArray) : (insL l k lu ho).length = k + 1 + (l.length - k) := by
  unfold insL
  rw [List.length_append, List.length_cons, List.length_take, List.length_drop]
  omega
theorem insL_at {l : List Wt} {k : Nat} (hk : k ≤ l.length) (lu : Int) (ho : ByteArray) : (insL l k lu ho)[k]? = some ⟨lu, ho, [], none, 0⟩ := by
  unfold insL
  rw [List.getElem?_append_right (by rw [List.length_take]; omega), List.length_take, Nat.min_eq_left hk, Nat.sub_self]
  rfl
theorem insL_mem {l : List Wt} {k : Nat} {lu : Int} {ho : ByteArray} {x : Wt} : x ∈ insL l k lu ho ↔ x = ⟨lu, ho, [], none, 0⟩ ∨ x ∈ l := by
  unfold insL
  rw [List.mem_append, List.mem_cons]
  have h : x ∈ l ↔ x ∈ l.take k ∨ x ∈ l.drop k := by
    rw [← List.mem_append, List.take_append_drop]
  rw [h]
  constructor
  · rintro (h | h | h)
    · exact .inr (.inl h)
    · exact .inl h
    · exact .inr (.inr h)
  · rintro (h | h | h)
    · exact .inr (.inl h)
    · exact .inl h
    · exact .inr (.inr h)
theorem insL_good {l : List Wt} (hg : GoodL l) {k : Nat} (hk : k ≤ l.length) {lu : Int} {ho : ByteArray} (hno : ∀ x ∈ l, ¬ x.is lu ho) (hl : 0 ≤ lu ∧ lu < 8) (hn : nameB ho = true)
    (hlo : ∀ j x, j < k → l[j]? = some x → x.ho.data.toList ≤ ho.data.toList) (hhi : ∀ x, l[k]? = some x → ho.data.toList ≤ x.ho.data.toList) : GoodL (insL l k lu ho) := by
  have hl2 : ∀ x ∈ l.drop k, ho.data.toList ≤ x.ho.data.toList := fun x hx => by
    obtain ⟨j, hj⟩ := List.getElem?_of_mem hx
    rw [List.getElem?_drop] at hj
    have hjl := (List.getElem?_eq_some_iff.1 hj).1
    rcases Nat.eq_zero_or_pos j with rfl | hj0
    · exact hhi x hj
    · obtain ⟨y, hy⟩ : ∃ y, l[k]? = some y := ⟨_, List.getElem?_eq_getElem (by omega)⟩
      have := List.pairwise_iff_getElem.1 hg.asc k (k + j) (List.getElem?_eq_some_iff.1 hy).1 hjl (by omega)
      rw [(List.getElem?_eq_some_iff.1 hy).2, (List.getElem?_eq_some_iff.1 hj).2] at this
      exact List.le_trans (hhi y hy) this
  have hl1 : ∀ x ∈ l.take k, x.ho.data.toList ≤ ho.data.toList := fun x hx => by
    obtain ⟨j, hj⟩ := List.getElem?_of_mem hx
    have hjk : j < k := by have := (List.getElem?_eq_some_iff.1 hj).1; rw [List.length_take] at this; omega
    rw [List.getElem?_take_of_lt hjk] at hj
    exact hlo j x hjk hj
  have hsp : l.take k ++ l.drop k = l := List.take_append_drop k l
  have ho1 := hg.once
  have ha1 := hg.asc
  rw [← hsp] at ho1 ha1
  obtain ⟨o1, o2, o3⟩ := List.pairwise_append.1 ho1
  obtain ⟨a1, a2, a3⟩ := List.pairwise_append.1 ha1
  refine ⟨?_, ?_, fun x hx => ?_⟩
  · refine List.pairwise_append.2 ⟨o1, List.pairwise_cons.2 ⟨fun y hy e => hno y (List.mem_of_mem_drop hy) ⟨e.1.symm, e.2.symm⟩, o2⟩, fun x hx y hy => ?_⟩
    rcases List.mem_cons.1 hy with rfl | hy
    · exact fun e => hno x (List.mem_of_mem_take hx) ⟨e.1, e.2⟩
    · exact o3 x hx y hy
  · refine List.pairwise_append.2 ⟨a1, List.pairwise_cons.2 ⟨fun y hy => hl2 y hy, a2⟩, fun x hx y hy => ?_⟩
    rcases List.mem_cons.1 hy with rfl | hy
    · exact hl1 x hx
    · exact a3 x hx y hy
  · rcases insL_mem.1 hx with rfl | hx
    · exact ⟨hl.1, hl.2, hn, by simp⟩
    · exact hg.fine x hx
theorem insL_fq {l : List Wt} (hg : GoodL l) {k : Nat} {lu : Int} {ho : ByteArray} (hg' : GoodL (insL l k lu ho)) : fq (insL l k lu ho) = fq l := by
  funext l' h'
  rcases fq_cases hg.once l' h' with ⟨x, hx, hi, e⟩ | ⟨hn, e⟩
  · have := fq_found hg'.once (insL_mem.2 (.inr hx))
    rw [hi.1, hi.2] at this
    rw [this, e]
  · rw [e]
    rcases fq_cases hg'.once l' h' with ⟨x, hx, hi, e2⟩ | ⟨_, e2⟩
    · rcases insL_mem.1 hx with rfl | hx
      · exact e2
      · exact absurd hi (hn x hx)
    · exact e2
theorem insL_cells (l : List Wt) (k : Nat) (lu : Int) (ho : ByteArray) : wtCells (insL l k lu ho) = wtCells (l.take k) ++ [.int .i64 lu, .string ho, .slice none 0 0] ++ wtCells (l.drop k) := by
  unfold insL
  rw [wtCells_append]
  show _ ++ (wtC _ ++ wtCells (l.drop k)) = _
  rw [List.append_assoc]
  rfl
theorem RqOut.from {mb : Nat} {w v V : World} {G G' : Nat → Prop} {p : Nat} {f : PF} (ho : Only G w v) (hs : ∀ k, G' k → G k ∨ w.heap.size ≤ k) (h : RqOut mb G' v p f V) : RqOut mb G w p f V := by
  obtain ⟨h1, G2, h2, h3⟩ := h
  exact ⟨ho.trans h1 hs, G2, h2, fun k hk => (h3 k hk).elim (hs k) (fun hh => .inr (Nat.le_trans ho.size hh))⟩
/-- The sources: the beginning of the row, and the rest of it. -/
theorem src_row {w : World} {G : Nat → Prop} {p : Nat} {l : List Wt} (hQ : Rq w G p l) {A : Option Addr} {c : Nat} (hc : w.cell? ⟨p, 0, none⟩ = some (.slice A l.length c)) :
    (A = none ∧ l = [] ∧ c = 0) ∨ ∃ g, A = some ⟨g, 0, none⟩ ∧ l.length ≤ c ∧ (∀ k, k ≤ l.length → SrcAt w (.slice (some ⟨g, 0, none⟩) k c) k 3 (wtCells (l.take k))) ∧
      (∀ k d, k ≤ l.length → SrcAt w (.slice (some ⟨g, k * 3, none⟩) (l.length - k) d) (l.length - k) 3 (wtCells (l.drop k))) := by
  obtain ⟨A', c', k1, k2, k3, k4, k5, k6⟩ := hQ
  have e := k1.cell 0
  rw [hc] at e
  have e2 : Value.slice A l.length c = Value.slice A' l.length c' := by simpa using e
  cases e2
  rcases k2.2 with ⟨he, h0⟩ | ⟨g, cap, cur, he, hb, hg, hnc, hm, hs, ht⟩
  · injection he with h1 _ h2
    exact .inl ⟨h1, List.length_eq_zero_iff.1 h0, h2⟩
  · cases he
    have hcell : ∀ j u, (wtCells l)[j]? = some u → w.cell? ⟨g, j, none⟩ = some u := fun j u hu => by
      have hj : j < l.length * 3 := by have := (List.getElem?_eq_some_iff.1 hu).1; rw [wtCells_length] at this; exact this
      rw [Blk.cell (show Blk w g 56 cur from hg)]
      have := congrArg (fun z => z[j]?) ht
      simp only [List.getElem?_take] at this
      rw [if_pos hj] at this
      rw [← Array.getElem?_toList, this, hu]
    have hsp : ∀ k, wtCells l = wtCells (l.take k) ++ wtCells (l.drop k) := fun k => by rw [← wtCells_append, List.take_append_drop]
    refine .inr ⟨g, rfl, hnc, fun k hk => ⟨by rw [wtCells_length, List.length_take, Nat.min_eq_left hk], wtCells_one, .inr ⟨_, _, rfl, fun j u hu => ?_⟩⟩, fun k d hk => ⟨by rw [wtCells_length, List.length_drop], wtCells_one, .inr ⟨_, _, rfl, fun j u hu => ?_⟩⟩⟩
    · have hadd : (⟨g, 0, none⟩ : Addr).add j = ⟨g, j, none⟩ := (add_lit g 0 j).trans (by rw [Nat.zero_add])
      rw [hadd]
      refine hcell j u ?_
      rw [hsp k, List.getElem?_append_left (List.getElem?_eq_some_iff.1 hu).1]
      exact hu
    · have hadd : (⟨g, k * 3, none⟩ : Addr).add j = ⟨g, k * 3 + j, none⟩ := add_lit g _ j
      rw [hadd]
      refine hcell _ u ?_
      rw [hsp k, List.getElem?_append_right (by rw [wtCells_length, List.length_take, Nat.min_eq_left hk]; omega), wtCells_length, List.length_take, Nat.min_eq_left hk, Nat.add_sub_cancel_left]
      exact hu
/-- The Units with the row that holds an entry more. -/
theorem rq_ins {w w6 V : World} {G : Nat → Prop} {p : Nat} {l : List Wt} (hQ : Rq w G p l) {k : Nat} (hk : k ≤ l.length) {lu : Int} {ho : ByteArray} (hb : Below w.heap.size w w6) {A6 : Option Addr} {c6 : Nat}
    (hown : w6.ownsRow w.heap.size 56 3 (.slice A6 (k + 1 + (l.length - k)) c6) (k + 1 + (l.length - k)) (wtCells (l.take k) ++ [.int .i64 lu, .string ho, .slice none 0 0] ++ wtCells (l.drop k)))
    (hV : V = w6.setCell ⟨p, 0, none⟩ (.slice A6 (k + 1 + (l.length - k)) c6)) :
    (∃ G', Rq V G' p (insL l k lu ho) ∧ ∀ j, G' j → G j ∨ w.heap.size ≤ j) ∧ Only G w V ∧ V.cell? ⟨p, 0, none⟩ = some (.slice A6 (insL l k lu ho).length c6) := by
  subst hV
  have hQ6 := hQ.keep (S := nobody) (Only.of_below hb) (fun _ _ h => h)
  obtain ⟨A, c, k1, k2, k3, k4, k5, k6⟩ := hQ6
  have hlen := insL_length hk lu ho
  have hap : (Value.slice A6 (k + 1 + (l.length - k)) c6).ownBlock ≠ some p := own_apart hown k1 (by decide)
  have hP := k1.put 0 (.slice A6 (k + 1 + (l.length - k)) c6)
  have ho1 : Only (fun j => j = p) w6 (w6.setCell ⟨p, 0, none⟩ (.slice A6 (k + 1 + (l.length - k)) c6)) := (Only.refl (fun j => j = p) w6).setCell (p := ⟨p, 0, none⟩) (.inl rfl) _
  have hwp : ∀ j, G j → j < w.heap.size := by
    obtain ⟨_, _, _, _, _, _, _, h6⟩ := hQ
    exact h6
  refine ⟨⟨fun j => G j ∨ (Value.slice A6 (k + 1 + (l.length - k)) c6).ownBlock = some j, ⟨A6, c6, ?_, ?_, .inl k3, fun j hj => .inr (by rw [hlen] at hj; exact hj), fun x hx => ?_, fun j hj => ?_⟩, fun j hj => hj.imp id (fun h => (hown.lt j h).1)⟩, ?_, ?_⟩
  · rw [hlen]; exact hP
  · rw [hlen, insL_cells]
    exact own_base (own_keep hown (fun j hj => ho1.block j (hown.lt j hj).2 (fun e => hap (e ▸ hj)))) (fun _ _ => Nat.zero_le _)
  · rcases insL_mem.1 hx with rfl | hx
    · exact ⟨Nat.le_refl _, fun hn => by simp at hn⟩
    · exact (k5 x hx).keep (fun j _ cs _ hb' _ => hb'.only ho1 (fun e => by subst e; exact absurd rfl (hb'.apart k1 (by decide)))) (fun _ h => .inl h)
  · rcases hj with hj | hj
    · exact Nat.lt_of_lt_of_le (hwp j hj) (Nat.le_trans hb.size ho1.size)
    · exact Nat.lt_of_lt_of_le (hown.lt j hj).2 ho1.size
  · exact (Only.of_below hb).setCell (p := ⟨p, 0, none⟩) (.inl k3) _
  · rw [hlen]
    exact (hP.cell 0).trans (by simp)
end Go.Proofs.Ytacogfllnhopoaa
