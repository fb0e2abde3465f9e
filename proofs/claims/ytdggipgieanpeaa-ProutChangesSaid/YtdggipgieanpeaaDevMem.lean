/- Words for memory: what a call may have touched, and rows of texts. -/
import Derived.Below
import Derived.Laws.OwnMore
import Derived.Laws.Rows
import Derived.Lib.Hide
namespace Go.Proofs.Ytdggipgieanpeaa
open Go.RowKit
/-- Of the blocks that were there none has turned but those of S. -/
structure Only (S : Nat → Prop) (w w' : World) : Prop where
  os : w'.os = w.os
  tape : w'.tape = w.tape
  output : w'.output = w.output
  size : w.heap.size ≤ w'.heap.size
  block : ∀ k, k < w.heap.size → ¬ S k → w'.heap[k]? = w.heap[k]?
def nobody : Nat → Prop := fun _ => False
theorem Only.refl (S : Nat → Prop) (w : World) : Only S w w := ⟨rfl, rfl, rfl, Nat.le_refl _, fun _ _ _ => rfl⟩
theorem Only.trans {S T : Nat → Prop} {a b c : World} (h : Only S a b) (k : Only T b c) (ht : ∀ i, T i → S i ∨ a.heap.size ≤ i) : Only S a c :=
  ⟨k.os.trans h.os, k.tape.trans h.tape, k.output.trans h.output, Nat.le_trans h.size k.size, fun i hi hs =>
    (k.block i (Nat.lt_of_lt_of_le hi h.size) (fun ti => (ht i ti).elim hs (fun h' => by omega))).trans (h.block i hi hs)⟩
theorem Only.mono {S T : Nat → Prop} {a b : World} (h : Only S a b) (hs : ∀ i, S i → T i) : Only T a b :=
  ⟨h.os, h.tape, h.output, h.size, fun i hi ht => h.block i hi (fun hi' => ht (hs i hi'))⟩
theorem Only.below {S : Nat → Prop} {a b c : World} (h : Only S a b) (k : Below b.heap.size b c) : Only S a c :=
  ⟨k.os.trans h.os, k.tape.trans h.tape, k.output.trans h.output, Nat.le_trans h.size k.size, fun i hi hs => (k.block i (Nat.lt_of_lt_of_le hi h.size)).trans (h.block i hi hs)⟩
theorem Only.of_below {S : Nat → Prop} {b c : World} (k : Below b.heap.size b c) : Only S b c := (Only.refl S b).below k
theorem Only.drew {S : Nat → Prop} {a b : World} (h : Only S a b) : Only S a b.drew := ⟨h.os, h.tape, h.output, h.size, h.block⟩
theorem Only.alloc {S : Nat → Prop} {a b : World} (h : Only S a b) (o : Obj) : Only S a (b.alloc o) :=
  ⟨h.os, h.tape, h.output, by have := h.size; simp; omega, fun k hk hs => (Below.heap_alloc b o k (Nat.lt_of_lt_of_le hk h.size)).trans (h.block k hk hs)⟩
theorem Only.setCell {S : Nat → Prop} {a b : World} (h : Only S a b) {p : Addr} (hp : S p.block ∨ a.heap.size ≤ p.block) (u : Value) : Only S a (b.setCell p u) :=
  ⟨h.os, h.tape, h.output, by have := h.size; simpa [World.setCell] using this, fun k hk hs =>
    (Below.heap_setCell b p u k (fun e => by subst e; exact hp.elim hs (fun h' => by omega))).trans (h.block k hk hs)⟩
theorem Only.grown {S : Nat → Prop} {a b c : World} {row : Option Nat} (h : Only S a b) (hg : b.grownBy c row) (hr : ∀ k, row = some k → S k ∨ a.heap.size ≤ k) : Only S a c :=
  ⟨hg.os.trans h.os, hg.tape.trans h.tape, hg.output.trans h.output, Nat.le_trans h.size hg.size, fun k hk hs =>
    (hg.block k (Nat.lt_of_lt_of_le hk h.size) (fun e => (hr k e.symm).elim hs (fun h' => by omega))).trans (h.block k hk hs)⟩
/-- What was touched lies from B on: below B all is as it was. -/
theorem Only.toBelow {S : Nat → Prop} {a b : World} (h : Only S a b) {B : Nat} (hB : B ≤ a.heap.size) (hs : ∀ k, S k → B ≤ k) : Below B a b :=
  ⟨h.os, h.tape, h.output, h.size, fun k hk => h.block k (by omega) (fun hk' => by have := hs k hk'; omega)⟩
theorem Only.cell {S : Nat → Prop} {a b : World} (h : Only S a b) {p : Addr} {v : Value} (hc : a.cell? p = some v) (hp : ¬ S p.block) : b.cell? p = some v :=
  (World.cell?_of_block (h.block p.block (World.block_lt_of_cell? a p hc) hp)).trans hc
/-- Block g is just these cells of that type, none frozen. -/
def Blk (w : World) (g : Nat) (t : TypeId) (cs : Array Value) : Prop := w.heap[g]? = some (.cells cs t (0, 0))
theorem Blk.lt {w : World} {g : Nat} {t : TypeId} {cs : Array Value} (h : Blk w g t cs) : g < w.heap.size := (Array.getElem?_eq_some_iff.1 h).1
theorem Blk.cell {w : World} {g : Nat} {t : TypeId} {cs : Array Value} (h : Blk w g t cs) (i : Nat) : w.cell? ⟨g, i, none⟩ = cs[i]? := cell_of_row w g i cs t (0, 0) h
theorem Blk.free {w : World} {g : Nat} {t : TypeId} {cs : Array Value} (h : Blk w g t cs) (i : Nat) : w.frozen? ⟨g, i, none⟩ = false := by
  unfold Blk at h
  simp [World.frozen?, h]
theorem Blk.new (w : World) (t : TypeId) (cs : Array Value) : Blk (w.alloc (.cells cs t)) w.heap.size t cs := heap_alloc_new w _
theorem Blk.alloc {w : World} {g : Nat} {t : TypeId} {cs : Array Value} (h : Blk w g t cs) (o : Obj) : Blk (w.alloc o) g t cs := (Below.heap_alloc w o g h.lt).trans h
theorem Blk.drew {w : World} {g : Nat} {t : TypeId} {cs : Array Value} (h : Blk w g t cs) : Blk w.drew g t cs := h
theorem Blk.put {w : World} {g : Nat} {t : TypeId} {cs : Array Value} (h : Blk w g t cs) (i : Nat) (u : Value) : Blk (w.setCell ⟨g, i, none⟩ u) g t (cs.setIfInBounds i u) := by
  unfold Blk at h ⊢
  simp [World.setCell, Array.getElem?_modify, h]
theorem Blk.far {w : World} {g : Nat} {t : TypeId} {cs : Array Value} (h : Blk w g t cs) {p : Addr} (hp : g ≠ p.block) (u : Value) : Blk (w.setCell p u) g t cs := (Below.heap_setCell w p u g hp).trans h
theorem Blk.only {S : Nat → Prop} {w w' : World} {g : Nat} {t : TypeId} {cs : Array Value} (h : Blk w g t cs) (ho : Only S w w') (hg : ¬ S g) : Blk w' g t cs := (ho.block g h.lt hg).trans h
theorem Blk.below {B : Nat} {w w' : World} {g : Nat} {t : TypeId} {cs : Array Value} (h : Blk w g t cs) (hb : Below B w w') (hg : g < B) : Blk w' g t cs := (hb.block g hg).trans h
theorem Blk.grown {w w' : World} {row : Option Nat} {g : Nat} {t : TypeId} {cs : Array Value} (h : Blk w g t cs) (hb : w.grownBy w' row) (hg : some g ≠ row) : Blk w' g t cs := (hb.block g h.lt hg).trans h
theorem Blk.apart {w : World} {g g' : Nat} {t t' : TypeId} {cs cs' : Array Value} (h : Blk w g t cs) (h' : Blk w g' t' cs') (hne : t ≠ t') : g ≠ g' := by
  rintro rfl
  unfold Blk at h h'
  rw [h] at h'
  injection h' with h'
  injection h' with _ ht
  exact hne ht
theorem own_apart {w : World} {g : Nat} {t : TypeId} {cs : Array Value} {base : Nat} {e : TypeId} {size n : Nat} {v : Value} {xs : List Value} (h : w.ownsRow base e size v n xs) (hg : Blk w g t cs) (hne : e ≠ t) : v.ownBlock ≠ some g := by
  rcases h.2 with ⟨rfl, _⟩ | ⟨g', cap, cur, rfl, _, hh, _⟩
  · simp [Value.ownBlock]
  · intro he
    have : g' = g := by simpa [Value.ownBlock] using he
    subst this
    exact Blk.apart (t := e) hh hg hne rfl
theorem own_keep {w w' : World} {base : Nat} {e : TypeId} {size n : Nat} {v : Value} {xs : List Value} (h : w.ownsRow base e size v n xs) (hk : ∀ g, v.ownBlock = some g → w'.heap[g]? = w.heap[g]?) : w'.ownsRow base e size v n xs := by
  refine ⟨h.1, ?_⟩
  rcases h.2 with hn | ⟨g, cap, cur, rfl, hb, hgg, rest⟩
  · exact .inl hn
  · exact .inr ⟨g, cap, cur, rfl, hb, (hk g rfl).trans hgg, rest⟩
theorem own_base {w : World} {base base' : Nat} {e : TypeId} {size n : Nat} {v : Value} {xs : List Value} (h : w.ownsRow base e size v n xs) (hk : ∀ g, v.ownBlock = some g → base' ≤ g) : w.ownsRow base' e size v n xs := by
  refine ⟨h.1, ?_⟩
  rcases h.2 with hn | ⟨g, cap, cur, rfl, hb, hgg, rest⟩
  · exact .inl hn
  · exact .inr ⟨g, cap, cur, rfl, hk g rfl, hgg, rest⟩
/-- Block g is a row of texts (of type e): its first ones are xs, it has room for cap. -/
def Txts (w : World) (e : TypeId) (g cap : Nat) (xs : List ByteArray) : Prop :=
  ∃ cur : Array Value, Blk w g e cur ∧ cur.size = cap ∧ xs.length ≤ cap ∧ cap ≤ maxLen ∧ cur.toList.take xs.length = xs.map .string
theorem Txts.lt {w : World} {e : TypeId} {g cap : Nat} {xs : List ByteArray} (h : Txts w e g cap xs) : g < w.heap.size := by
  obtain ⟨cur, hb, _⟩ := h
  exact hb.lt
theorem Txts.keep {w w' : World} {e : TypeId} {g cap : Nat} {xs : List ByteArray} (h : Txts w e g cap xs) (hk : w'.heap[g]? = w.heap[g]?) : Txts w' e g cap xs := by
  obtain ⟨cur, hb, hr⟩ := h
  exact ⟨cur, hk.trans hb, hr⟩
theorem Txts.free {w : World} {e : TypeId} {g cap : Nat} {xs : List ByteArray} (h : Txts w e g cap xs) (i : Nat) : w.frozen? ⟨g, i, none⟩ = false := by
  obtain ⟨cur, hb, _⟩ := h
  exact hb.free i
theorem Txts.cell {w : World} {e : TypeId} {g cap : Nat} {xs : List ByteArray} (h : Txts w e g cap xs) {i : Nat} {s : ByteArray} (hi : xs[i]? = some s) : w.cell? ⟨g, i, none⟩ = some (.string s) := by
  obtain ⟨cur, hb, _, _, _, ht⟩ := h
  rw [hb.cell]
  have hl : i < xs.length := (List.getElem?_eq_some_iff.1 hi).1
  have := congrArg (fun l => l[i]?) ht
  simp only [List.getElem?_take, hl, if_true, List.getElem?_map, hi] at this
  simpa using this
theorem Txts.put {w : World} {e : TypeId} {g cap : Nat} {xs : List ByteArray} (h : Txts w e g cap xs) (i : Nat) (s : ByteArray) : Txts (w.setCell ⟨g, i, none⟩ (.string s)) e g cap (xs.set i s) := by
  obtain ⟨cur, hb, hs, hl, hm, ht⟩ := h
  refine ⟨_, hb.put i _, by simpa using hs, by simpa using hl, hm, ?_⟩
  rw [List.map_set, ← ht, List.length_set]
  rw [Array.toList_setIfInBounds, List.take_set]
theorem Txts.far {w : World} {e : TypeId} {g cap : Nat} {xs : List ByteArray} (h : Txts w e g cap xs) {p : Addr} (hp : g ≠ p.block) (u : Value) : Txts (w.setCell p u) e g cap xs := h.keep (Below.heap_setCell w p u g hp)
theorem Txts.alloc {w : World} {e : TypeId} {g cap : Nat} {xs : List ByteArray} (h : Txts w e g cap xs) (o : Obj) : Txts (w.alloc o) e g cap xs := h.keep (Below.heap_alloc w o g h.lt)
theorem Txts.only {S : Nat → Prop} {w w' : World} {e : TypeId} {g cap : Nat} {xs : List ByteArray} (h : Txts w e g cap xs) (ho : Only S w w') (hg : ¬ S g) : Txts w' e g cap xs := h.keep (ho.block g h.lt hg)
theorem Txts.own {w : World} {e : TypeId} {g cap : Nat} {xs : List ByteArray} (h : Txts w e g cap xs) {base : Nat} (hb : base ≤ g) : w.ownsRow base e 1 (.slice (some ⟨g, 0, none⟩) xs.length cap) xs.length (xs.map .string) := by
  obtain ⟨cur, hbk, hs, hl, hm, ht⟩ := h
  exact ⟨by simp, .inr ⟨g, cap, cur, rfl, hb, hbk, hl, hm, by omega, by simpa using ht⟩⟩
theorem Txts.of_own {w : World} {e : TypeId} {base n : Nat} {v : Value} {xs : List ByteArray} (h : w.ownsRow base e 1 v n (xs.map .string)) (hn : 0 < n) :
    ∃ g cap, v = .slice (some ⟨g, 0, none⟩) n cap ∧ base ≤ g ∧ xs.length = n ∧ Txts w e g cap xs := by
  have hl : xs.length = n := by simpa using h.1
  rcases h.2 with ⟨_, h0⟩ | ⟨g, cap, cur, rfl, hb, hg, hnc, hm, hs, ht⟩
  · omega
  · exact ⟨g, cap, rfl, hb, hl, cur, hg, by simpa using hs, by omega, hm, by simpa [hl] using ht⟩
theorem Txts.type {w : World} {e t : TypeId} {g g' cap : Nat} {cs : Array Value} {xs : List ByteArray} (h : Txts w e g cap xs) (hb : Blk w g' t cs) (hne : e ≠ t) : g ≠ g' := by
  obtain ⟨cur, hbk, _⟩ := h
  exact hbk.apart hb hne
end Go.Proofs.Ytdggipgieanpeaa
