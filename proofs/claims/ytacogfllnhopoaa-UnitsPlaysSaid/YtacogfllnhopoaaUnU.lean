/- The document's Wait, Take and Forget. -/
import Derived.Test.YtacogfllnhopoaaUnT
namespace Go.Proofs.Ytacogfllnhopoaa
open Go.RowKit Go.Maps
/-- The document's Units keeps f. -/
def RQ (mb : Nat) (w : World) (G : Nat → Prop) (p : Nat) (f : PF) : Prop := ∃ l, Rq w G p l ∧ fq l = f ∧ GoodL l ∧ l.length ≤ mb
theorem RQ.keep {mb : Nat} {w w' : World} {G S : Nat → Prop} {p : Nat} {f : PF} (h : RQ mb w G p f) (ho : Only S w w') (hd : ∀ k, G k → ¬ S k) : RQ mb w' G p f := by
  obtain ⟨l, h1, h2⟩ := h
  exact ⟨l, h1.keep ho hd, h2⟩
theorem RQ.lt {mb : Nat} {w : World} {G : Nat → Prop} {p : Nat} {f : PF} (h : RQ mb w G p f) : ∀ k, G k → k < w.heap.size := by
  obtain ⟨l, ⟨A, c, h1, h2, h3, h4, h5, h6⟩, _⟩ := h
  exact h6
/-- What a method leaves. -/
def RqOut (mb : Nat) (G : Nat → Prop) (w : World) (p : Nat) (f : PF) (w' : World) : Prop := Only G w w' ∧ ∃ G', RQ mb w' G' p f ∧ ∀ k, G' k → G k ∨ w.heap.size ≤ k
theorem RQ.out {mb : Nat} {w : World} {G : Nat → Prop} {p : Nat} {f : PF} (h : RQ mb w G p f) {w' : World} (hb : Below w.heap.size w w') : RqOut mb G w p f w' :=
  ⟨Only.of_below hb, G, h.keep (S := nobody) (Only.of_below hb) (fun _ _ h => h), fun _ h => .inl h⟩
theorem fq_at {l : List Wt} (hg : GoodL l) {k : Nat} {x : Wt} (hx : l[k]? = some x) {lu : Int} {ho : ByteArray} (hi : x.is lu ho) : fq l lu ho = x.zs := by
  obtain ⟨rfl, rfl⟩ := hi
  exact fq_found hg.once (List.mem_of_getElem? hx)
theorem fq_set {l : List Wt} (hg : GoodL l) {k : Nat} {x y : Wt} (hx : l[k]? = some x) {lu : Int} {ho : ByteArray} (hi : x.is lu ho) (h1 : y.lu = x.lu) (h2 : y.ho = x.ho) : fq (l.set k y) = upd (fq l) lu ho y.zs := by
  obtain ⟨rfl, rfl⟩ := hi
  have hp : (l.set k y).Pairwise (fun x y => ¬ (x.lu = y.lu ∧ x.ho = y.ho)) := by
    have e : (l.set k y).map (fun x => (x.lu, x.ho)) = l.map (fun x => (x.lu, x.ho)) := by
      rw [List.map_set]
      apply List.ext_getElem?
      intro i
      rw [List.getElem?_set]
      split
      · rename_i hki
        subst hki
        split
        · simp [hx, h1, h2]
        · rename_i hlt
          simp at hlt
          have := (List.getElem?_eq_some_iff.1 hx).1
          omega
      · rfl
    have h3 : (l.map (fun x => (x.lu, x.ho))).Pairwise (· ≠ ·) := by rw [List.pairwise_map]; exact hg.once.imp (fun {a b} h e => h (by simpa using e))
    rw [← e, List.pairwise_map] at h3
    exact h3.imp (fun {a b} h e => h (by simp [e.1, e.2]))
  funext l' h'
  unfold upd
  split
  · rename_i hh
    obtain ⟨rfl, rfl⟩ := hh
    have hm : y ∈ l.set k y := List.mem_set (by exact (List.getElem?_eq_some_iff.1 hx).1) y
    have := fq_found hp hm
    rw [h1, h2] at this
    exact this
  · rename_i hh
    rcases fq_cases hg.once l' h' with ⟨z, hz, hzi, e⟩ | ⟨hno, e⟩
    · rw [e]
      have hzm : z ∈ l.set k y := by
        obtain ⟨j, hj⟩ := List.getElem?_of_mem hz
        have hjk : k ≠ j := by
          rintro rfl
          rw [hx] at hj
          cases hj
          exact hh ⟨hzi.1.symm, hzi.2.symm⟩
        exact List.mem_of_getElem? (by rw [List.getElem?_set_ne hjk]; exact hj)
      have := fq_found hp hzm
      rw [hzi.1, hzi.2] at this
      exact this
    · rw [e]
      refine fq_none fun z hz hzi => ?_
      rcases List.mem_or_eq_of_mem_set hz with hz | rfl
      · exact hno z hz hzi
      · exact hh ⟨by rw [← hzi.1, h1], by rw [← hzi.2, h2]⟩
theorem GoodL.set {l : List Wt} (hg : GoodL l) {k : Nat} {x y : Wt} (hx : l[k]? = some x) (h1 : y.lu = x.lu) (h2 : y.ho = x.ho) (h3 : y.zs.length ≤ 8) : GoodL (l.set k y) := by
  have e : (l.set k y).map (fun x => (x.lu, x.ho)) = l.map (fun x => (x.lu, x.ho)) := by
    rw [List.map_set]
    apply List.ext_getElem?
    intro i
    rw [List.getElem?_set]
    split
    · rename_i hki
      subst hki
      split
      · simp [hx, h1, h2]
      · rename_i hlt
        simp at hlt
        have := (List.getElem?_eq_some_iff.1 hx).1
        omega
    · rfl
  refine ⟨?_, ?_, fun z hz => ?_⟩
  · have h3 : (l.map (fun x => (x.lu, x.ho))).Pairwise (fun a b => ¬ (a.1 = b.1 ∧ a.2 = b.2)) := by rw [List.pairwise_map]; exact hg.once
    rw [← e, List.pairwise_map] at h3
    exact h3
  · have h3 : (l.map (fun x => (x.lu, x.ho))).Pairwise (fun a b => a.2.data.toList ≤ b.2.data.toList) := by rw [List.pairwise_map]; exact hg.asc
    rw [← e, List.pairwise_map] at h3
    exact h3
  · rcases List.mem_or_eq_of_mem_set hz with hz | rfl
    · exact hg.fine z hz
    · have := hg.fine x (List.mem_of_getElem? hx)
      rw [h1, h2]
      exact ⟨this.1, this.2.1, this.2.2.1, h3⟩
theorem Rq.mono {w : World} {G G' : Nat → Prop} {p : Nat} {l : List Wt} (h : Rq w G p l) (hs : ∀ k, G k → G' k) (hl : ∀ k, G' k → k < w.heap.size) : Rq w G' p l := by
  obtain ⟨A, c, h1, h2, h3, h4, h5, h6⟩ := h
  exact ⟨A, c, h1, h2, hs _ h3, fun g hg => hs _ (h4 g hg), fun x hx => (h5 x hx).keep (fun k _ cs _ hb _ => hb) hs, hl⟩
/-- The row with another list of numbers at one place. -/
theorem Rq.put {w : World} {G : Nat → Prop} {p : Nat} {l : List Wt} (h : Rq w G p l) {k : Nat} {x y : Wt} (hx : l[k]? = some x) (h1 : y.lu = x.lu) (h2 : y.ho = x.ho) (hok : WtOk w G y) {g : Nat} {A : Option Addr} (hA : A = some ⟨g, 0, none⟩) {c : Nat} (hc : w.cell? ⟨p, 0, none⟩ = some (.slice A l.length c)) :
    Rq (w.setCell ⟨g, k * 3 + 2, none⟩ (.slice y.A y.zs.length y.c)) G p (l.set k y) ∧ Only G w (w.setCell ⟨g, k * 3 + 2, none⟩ (.slice y.A y.zs.length y.c)) := by
  obtain ⟨A', c', k1, k2, k3, k4, k5, k6⟩ := h
  have hk : k < l.length := (List.getElem?_eq_some_iff.1 hx).1
  have hce : Value.slice A l.length c = Value.slice A' l.length c' := by
    have := k1.cell 0
    rw [hc] at this
    simpa using this
  obtain ⟨rfl, rfl⟩ : A = A' ∧ c = c' := by simpa using hce
  subst hA
  rcases k2.2 with ⟨he, h0⟩ | ⟨g', cap, cur, he, hb, hg, hnc, hm, hs, ht⟩
  · cases he
  · cases he
    have hgB : Blk w g 56 cur := hg
    have hGg : G g := k4 g rfl
    have ho1 : Only (fun j => j = g) w (w.setCell ⟨g, k * 3 + 2, none⟩ (.slice y.A y.zs.length y.c)) := (Only.refl (fun j => j = g) w).setCell (p := ⟨g, k * 3 + 2, none⟩) (.inl rfl) _
    have ho : Only G w (w.setCell ⟨g, k * 3 + 2, none⟩ (.slice y.A y.zs.length y.c)) := ho1.mono (fun j hj => hj ▸ hGg)
    have ho3 : Only (fun k => G k ∧ ¬ ∃ cs, Blk w k 3 cs) w (w.setCell ⟨g, k * 3 + 2, none⟩ (.slice y.A y.zs.length y.c)) := ho1.mono (fun j hj => by
      subst hj
      exact ⟨hGg, fun ⟨cs, hcs⟩ => absurd rfl (hcs.apart hgB (by decide))⟩)
    have hpg : p ≠ g := k1.apart hgB (by decide)
    refine ⟨⟨some ⟨g, 0, none⟩, c, ?_, ?_, k3, fun j hj => ?_, fun z hz => ?_, fun j hj => Nat.lt_of_lt_of_le (k6 j hj) ho.size⟩, ho⟩
    · rw [List.length_set]
      exact k1.only ho1 hpg
    · rw [List.length_set]
      refine ⟨by rw [wtCells_length, List.length_set], .inr ⟨g, c, _, rfl, hb, hgB.put _ _, hnc, hm, by simpa using hs, ?_⟩⟩
      rw [wtCells_set l k x y hx h1 h2, ← ht, Array.toList_setIfInBounds, List.take_set]
    · rw [List.length_set] at hj
      exact k4 j hj
    · rcases List.mem_or_eq_of_mem_set hz with hz | rfl
      · exact (k5 z hz).keep (fun j _ cs _ hb _ => hb.only ho3 (fun hh => hh.2 ⟨cs, hb⟩)) (fun _ h => h)
      · exact hok.keep (fun j _ cs _ hb _ => hb.only ho3 (fun hh => hh.2 ⟨cs, hb⟩)) (fun _ h => h)
theorem rwait_any {mb : Nat} (w : World) {G : Nat → Prop} {p : Nat} {f : PF} (h : RQ mb w G p f) (lu : Int) (ho : ByteArray) :
    Calls Try.prog 15 #[.pointer (some ⟨p, 0, none⟩), .int .i64 lu, .string ho] w fun e w' => e = .returned (.int .i64 (f lu ho).length) ∧ w = w' := by
  obtain ⟨l, h1, rfl, hg, _⟩ := h
  obtain ⟨A, c, hp, hr⟩ := h1.row
  have HF := Lib.hid (find_any w h1 lu ho); have HR := Lib.hid hr; have HG := Lib.hid hg
  clear h1 hr hg
  go_enter Try.func15, Try.ntmps15
  go_wp2_with (fail)
  refine HF.out.mono ?_
  rintro e w' ⟨rfl, ⟨k, x, rfl, hx, hi⟩ | ⟨rfl, hno⟩⟩
  · obtain ⟨g, rfl, _, c0, c1, c2, _, _⟩ := HR k x hx
    have HE := Lib.hid (fq_at HG hx hi)
    have hk : (k : Int) < (l.length : Int) := by have := (List.getElem?_eq_some_iff.1 hx).1; omega
    clear hx hi c0 c1
    go_wp2
    go_ret
    rw [HE.out]
    exact ⟨rfl, rfl⟩
  · have HE := Lib.hid (fq_none hno)
    clear hno
    go_wp2
    go_ret
    rw [HE.out]
    exact ⟨rfl, rfl⟩
end Go.Proofs.Ytacogfllnhopoaa
