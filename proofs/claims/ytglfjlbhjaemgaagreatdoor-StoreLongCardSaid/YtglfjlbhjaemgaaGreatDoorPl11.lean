/- A write that is held back. -/
import Derived.Test.YtglfjlbhjaemgaaGreatDoorPl10
import Derived.Maps.AppendAt
namespace Go.Proofs.YtglfjlbhjaemgaaGreatDoor
open Go.RowKit
def Grew (F : Nat → Prop) (w : World) (F' : Nat → Prop) : Prop := ∀ k, F' k → F k ∨ w.heap.size ≤ k
/-- Behind a call: the program's device at p is as y has it; of what was there only its own has turned. -/
def DvOut (F : Nat → Prop) (w : World) (p n : Nat) (y : St) (w' : World) : Prop := ∃ F', Dv w' F' p n y ∧ Only F w w' ∧ Grew F w F'
theorem DvOut.of {F : Nat → Prop} {w : World} {p n : Nat} {y : St} {w' : World} (h : Dv w' F p n y ∧ Only F w w') : DvOut F w p n y w' := ⟨F, h.1, h.2, fun _ hk => .inl hk⟩
theorem DvOut.trans {F F' : Nat → Prop} {w w' w2 : World} {p n : Nat} {z : St} (ho : Only F w w') (hg : Grew F w F') (h : DvOut F' w' p n z w2) : DvOut F w p n z w2 := by
  obtain ⟨F2, hd, h2, hg2⟩ := h
  exact ⟨F2, hd, ho.trans h2 hg, fun k hk => (hg2 k hk).elim (fun h => hg k h) (fun h => .inr (Nat.le_trans ho.size h))⟩
theorem info82 : (Tryz.prog.info? 153).map (fun i => (i.zero, i.size, i.bytes)) = some (some (.agg #[.int .i64 0, .string ⟨#[]⟩]), 2, 24) := by kernel_rfl
/-- What was appended to the writes that are held back: the device's parts behind it. -/
theorem hold_parts {w w1 w2 : World} {F : Nat → Prop} {E T : TypeId} {n : Nat} {x : St} {p br cr bs cs i : Nat} {hv hv' : Value} {s : ByteArray} {cells : Array Value} (hb : Blk w p T cells) (hT : 9 ≠ T) (hE : E ≠ T) (hE9 : E ≠ 9)
    (hp : Parts w F E n x p br cr bs cs hv) (hg : (x.hold i s).Good n) (h1 : (w.setCell ⟨br, i, none⟩ (.string s)).grownBy w1 hv.ownBlock)
    (hown : w1.ownsRow 0 E 2 hv' (x.held.length + 1) (heldCells x.held ++ [.int .i64 (i : Int), .string s])) (hb' : hv'.ownBlock = hv.ownBlock ∨ ∀ k, hv'.ownBlock = some k → w.heap.size ≤ k ∧ k < w1.heap.size) (h2 : Only (its p) w1 w2) :
    Parts w2 (fun k => F k ∨ hv'.ownBlock = some k) E n (x.hold i s) p br cr bs cs hv' := by
  have n1 : br ≠ p := hp.seen.type hb hT
  have n2 : bs ≠ p := hp.safe.type hb hT
  have n3 := own_apart hp.held hb hE
  obtain ⟨cur, hcur, _⟩ := hp.safe
  obtain ⟨cur2, hcur2, _⟩ := hp.seen
  have n4 := own_apart hp.held hcur hE9
  have n5 := own_apart hp.held hcur2 hE9
  have l1 := hp.lt _ hp.fr
  have l2 := hp.lt _ hp.fs
  have sz : (w.setCell ⟨br, i, none⟩ (.string s)).heap.size = w.heap.size := by simp [World.setCell]
  have k1 : ∀ k, k < w.heap.size → some k ≠ hv.ownBlock → k ≠ br → k ≠ p → w2.heap[k]? = w.heap[k]? := fun k hk hv1 hk2 hk3 =>
    (h2.block k (by have := h1.size; omega) hk3).trans ((h1.block k (by omega) hv1).trans (Below.heap_setCell _ _ _ _ hk2))
  have hlt : ∀ k, hv'.ownBlock = some k → k < w1.heap.size := fun k hk => by
    rcases hb' with e | e
    · rw [e] at hk
      have := hp.lt k (hp.fh k hk)
      have := h1.size
      omega
    · exact (e k hk).2
  refine ⟨?_, hp.safe.keep (k1 _ l2 (Ne.symm n4) (Ne.symm hp.apart) n2), hp.apart, ?_, .inl hp.fp, .inl hp.fr, .inl hp.fs, fun g hg => .inr hg, fun k hk => ?_, hg⟩
  · rw [seen_hold]
    refine (hp.seen.put i s).keep ?_
    exact (h2.block br (by have := h1.size; omega) n1).trans (h1.block br (by omega) (Ne.symm n5))
  · show w2.ownsRow 0 E 2 hv' (x.held ++ [(i, s)]).length (heldCells (x.held ++ [(i, s)]))
    rw [heldCells_snoc, List.length_append]
    refine own_keep hown fun g hg => h2.block g (hlt g hg) ?_
    intro e
    have e : g = p := e
    subst e
    rcases hb' with e | e
    · rw [e] at hg; exact n3 hg
    · have := (e g hg).1
      have := hp.lt _ hp.fp
      omega
  · have := h2.size
    have := h1.size
    rcases hk with hk | hk
    · have := hp.lt k hk; omega
    · have := hlt k hk; omega
theorem cells_two (w : World) (x y : Value) (t : TypeId) {m : Nat} (hm : w.heap.size = m) : ∀ j u, [x, y][j]? = some u → (w.alloc (.cells #[x, y] t)).cell? ((⟨m, 0, none⟩ : Addr).add j) = some u := by
  subst hm
  intro j u hj
  match j, hj with
  | 0, hj => simp at hj; subst hj; simp [Addr.add]
  | 1, hj => simp at hj; subst hj; simp [Addr.add]
theorem two_cells {k : IntKind} {i : Int} {s : ByteArray} : ∀ u ∈ [Value.int k i, .string s], u.oneCell' = true := by
  intro u hu
  simp at hu
  rcases hu with rfl | rfl <;> rfl
theorem hold_out {w w1 : World} {F : Nat → Prop} {n : Nat} {x : St} {p br cr bs cs i : Nat} {hv hv' : Value} {s : ByteArray} {o : Obj} (hb : Blk w p 112 (devCells n x br cr bs cs hv))
    (hp : Parts w F 153 n x p br cr bs cs hv) (hg : (x.hold i s).Good n) (h1 : ((w.setCell ⟨br, i, none⟩ (.string s)).alloc o).grownBy w1 hv.ownBlock)
    (hown : w1.ownsRow 0 153 2 hv' (x.held.length + 1) (heldCells x.held ++ [.int .i64 (i : Int), .string s])) (hb' : hv'.ownBlock = hv.ownBlock ∨ hv'.ownBlock = some ((w.setCell ⟨br, i, none⟩ (.string s)).alloc o).heap.size) :
    DvOut F w p n (x.hold i s) (w1.setCell ⟨p, 3, none⟩ hv') := by
  have n1 : br ≠ p := hp.seen.type hb (by decide)
  have n3 := own_apart hp.held hb (by decide)
  have h1' := (World.grownBy_alloc (w.setCell ⟨br, i, none⟩ (.string s)) o hv.ownBlock).trans h1
  have hbl : hv'.ownBlock = hv.ownBlock ∨ ∀ k, hv'.ownBlock = some k → w.heap.size ≤ k ∧ k < w1.heap.size := by
    rcases hb' with e | e
    · exact .inl e
    · refine .inr fun k hk => ⟨?_, (hown.lt k hk).2⟩
      rw [e] at hk
      have : ((w.setCell ⟨br, i, none⟩ (.string s)).alloc o).heap.size = k := by simpa using hk
      simp [World.setCell] at this
      omega
  have hparts := hold_parts hb (by decide) (by decide) (by decide) hp hg h1' hown hbl (only_put w1 p 3 hv')
  refine ⟨_, ⟨br, cr, bs, cs, hv', ?_, hparts⟩, ?_, ?_⟩
  · have b1 : Blk (w.setCell ⟨br, i, none⟩ (.string s)) p 112 (devCells n x br cr bs cs hv) := hb.far (Ne.symm n1) _
    have b2 : Blk w1 p 112 (devCells n x br cr bs cs hv) := b1.grown h1' (Ne.symm n3)
    exact b2.put 3 hv'
  · refine (((Only.refl F w).setCell (p := ⟨br, i, none⟩) (.inl hp.fr) _).grown h1' fun k hk => .inl (hp.fh k hk)).setCell (.inl hp.fp) _
  · intro k hk
    rcases hk with hk | hk
    · exact .inl hk
    · rcases hbl with e | e
      · rw [e] at hk; exact .inl (hp.fh k hk)
      · exact .inr (e k hk).1
set_option maxHeartbeats 400000 in
theorem hold_any (w : World) {F : Nat → Prop} {p n : Nat} {x : St} (h : Dv w F p n x) (i : Nat) (s : ByteArray) (hi : i < n) (hg : (x.hold i s).Good n) (hk : x.held.length ≤ 1099511627776) :
    Calls Tryz.prog 165 #[.pointer (some ⟨p, 0, none⟩), .int .i64 (i : Int), .string s] w fun e w' => e = .returned (.tuple #[]) ∧ DvOut F w p n (x.hold i s) w' := by
  have hn := h.good.most
  have hz := h.good.size
  obtain ⟨br, cr, bs, cs, hv, hb, hp⟩ := h
  have hsi : i < x.seen.length := by rw [seen_length, hz]; exact hi
  obtain ⟨u0, hc⟩ : ∃ u, w.cell? ⟨br, i, none⟩ = some u := ⟨_, hp.seen.cell (i := i) (List.getElem?_eq_getElem hsi)⟩
  have fc := hp.seen.free i
  have h1 : w.cell? ⟨p, 1, none⟩ = some (.slice (some ⟨br, 0, none⟩) n cr) := hb.cell 1
  have n1 : br ≠ p := hp.seen.type hb (by decide)
  have b1 : Blk (w.setCell ⟨br, i, none⟩ (.string s)) p 112 (devCells n x br cr bs cs hv) := hb.far (Ne.symm n1) _
  have h3 : w.cell? ⟨p, 3, none⟩ = some hv := hb.cell 3
  have HS := Lib.hid (show (w.setCell ⟨br, i, none⟩ (.string s)).heap.size = w.heap.size by simp [World.setCell])
  have hown : (w.setCell ⟨br, i, none⟩ (.string s)).ownsRow 0 153 2 hv x.held.length (heldCells x.held) := by
    refine own_keep hp.held fun g hg => Below.heap_setCell _ _ _ _ ?_
    obtain ⟨cur2, hcur2, _⟩ := hp.seen
    have := own_apart hp.held hcur2 (by decide)
    intro e
    exact this (by rw [hg]; exact congrArg some e)
  have HZ := Lib.hid hz
  have HB := Lib.hid hb
  have HG := Lib.hid hg
  have n3 := own_apart hp.held hb (by decide)
  have N3 := Lib.hid n3
  clear hz hb hsi hg n3
  obtain ⟨i0, hi0, hz0, hz1, hz2⟩ := info_parts info82
  have HO := Lib.hid (hown.alloc (.cells #[.int .i64 (i : Int), .string s] 153))
  have HM := Lib.hid (show x.held.length + 1 ≤ maxLen by unfold maxLen; omega)
  have HY := Lib.hid (show (x.held.length + 1) * 24 ≤ 140737488355328 by omega)
  clear hown hk
  go_enter Tryz.func165, Tryz.ntmps165
  go_wp2_with (at_builtin; refine wpList_append_own_at _ rfl (.tmp 17) (.tmp 21) _ rfl 0 153 i0 _ 2 24 Tryz.underlying110 hi0 hz0 hz1 hz2 rfl (by omega) hv x.held.length (heldCells x.held) rfl HO.out _ 1 1 [.int .i64 (i : Int), .string s] rfl rfl (cells_two _ _ _ _ HS.out) two_cells HM.out HY.out (Nat.zero_le _) ?_; intro hv' w1 hown1 hg1 hn1 hat1; obtain ⟨A1, c1, rfl⟩ := own_form hown1; have HO1 := Lib.hid hown1; have HA1 := Lib.hid hat1; have HR1 := Lib.hid hg1; have hbb := (b1.alloc _).grown hg1 (Ne.symm N3.out); have hc3 : w1.cell? ⟨p, 3, none⟩ = some hv := hbb.cell 3; have hf3 := hbb.free 3; clear hown1 hat1 hg1 hn1 hbb)
  go_end0
  exact ⟨rfl, hold_out HB.out hp HG.out HR1.out HO1.out (by simpa [World.setCell] using HA1.out)⟩
end Go.Proofs.YtglfjlbhjaemgaaGreatDoor
