/- Words for memory: what a call may have touched, and rows of texts. A device as the document has it: what is safe, what is held back, and what each call makes of it. -/
import Derived.Below
import Derived.Laws.OwnMore
import Derived.Laws.Rows
import Derived.Lib.Hide
namespace Go.Proofs.YtglfjlbhjaemgaaGreatDoor
open Go.RowKit
/-- Of the blocks that were there none has turned but those of S. -/
structure Only (S : Nat → Prop) (w w' : World) : Prop where
  os : w'.os = w.os
  tape : w'.tape = w.tape
  output : w'.output = w.output
  size : w.heap.size ≤ w'.heap.size
  block : ∀ k, k < w.heap.size → ¬ S k → w'.heap[k]? = w.heap[k]?
def nobody : Nat → Prop := fun _ => False
theorem Only.refl (S : Nat → Prop) (w : World) : Only S w w := ⟨rfl, rfl, rfl, Nat.le_refl _, fun _ _ _ => rfl⟩
theorem Only.trans {S T : Nat → Prop} {a b c : World} (h : Only S a b) (k : Only T b c) (ht : ∀ i, T i → S i ∨ a.heap.size ≤ i) : Only S a c :=
  ⟨k.os.trans h.os, k.tape.trans h.tape, k.output.trans h.output, Nat.le_trans h.size k.size, fun i hi hs =>
    (k.block i (Nat.lt_of_lt_of_le hi h.size) (fun ti => (ht i ti).elim hs (fun h' => by omega))).trans (h.block i hi hs)⟩
theorem Only.mono {S T : Nat → Prop} {a b : World} (h : Only S a b) (hs : ∀ i, S i → T i) : Only T a b :=
  ⟨h.os, h.tape, h.output, h.size, fun i hi ht => h.block i hi (fun hi' => ht (hs i hi'))⟩
theorem Only.below {S : Nat → Prop} {a b c : World} (h : Only S a b) (k : Below b.heap.size b c) : Only S a c :=
  ⟨k.os.trans h.os, k.tape.trans h.tape, k.output.trans h.output, Nat.le_trans h.size k.size, fun i hi hs => (k.block i (Nat.lt_of_lt_of_le hi h.size)).trans (h.block i hi hs)⟩
theorem Only.of_below {S : Nat → Prop} {b c : World} (k : Below b.heap.size b c) : Only S b c := (Only.refl S b).below k
theorem Only.drew {S : Nat → Prop} {a b : World} (h : Only S a b) : Only S a b.drew := ⟨h.os, h.tape, h.output, h.size, h.block⟩
theorem Only.alloc {S : Nat → Prop} {a b : World} (h : Only S a b) (o : Obj) : Only S a (b.alloc o) :=
  ⟨h.os, h.tape, h.output, by have := h.size; simp; omega, fun k hk hs => (Below.heap_alloc b o k (Nat.lt_of_lt_of_le hk h.size)).trans (h.block k hk hs)⟩
theorem Only.setCell {S : Nat → Prop} {a b : World} (h : Only S a b) {p : Addr} (hp : S p.block ∨ a.heap.size ≤ p.block) (u : Value) : Only S a (b.setCell p u) :=
  ⟨h.os, h.tape, h.output, by have := h.size; simpa [World.setCell] using this, fun k hk hs =>
    (Below.heap_setCell b p u k (fun e => by subst e; exact hp.elim hs (fun h' => by omega))).trans (h.block k hk hs)⟩
theorem Only.grown {S : Nat → Prop} {a b c : World} {row : Option Nat} (h : Only S a b) (hg : b.grownBy c row) (hr : ∀ k, row = some k → S k ∨ a.heap.size ≤ k) : Only S a c :=
  ⟨hg.os.trans h.os, hg.tape.trans h.tape, hg.output.trans h.output, Nat.le_trans h.size hg.size, fun k hk hs =>
    (hg.block k (Nat.lt_of_lt_of_le hk h.size) (fun e => (hr k e.symm).elim hs (fun h' => by omega))).trans (h.block k hk hs)⟩
/-- What was touched lies from B on: below B all is as it was. -/
theorem Only.toBelow {S : Nat → Prop} {a b : World} (h : Only S a b) {B : Nat} (hB : B ≤ a.heap.size) (hs : ∀ k, S k → B ≤ k) : Below B a b :=
  ⟨h.os, h.tape, h.output, h.size, fun k hk => h.block k (by omega) (fun hk' => by have := hs k hk'; omega)⟩
theorem Only.cell {S : Nat → Prop} {a b : World} (h : Only S a b) {p : Addr} {v : Value} (hc : a.cell? p = some v) (hp : ¬ S p.block) : b.cell? p = some v :=
  (World.cell?_of_block (h.block p.block (World.block_lt_of_cell? a p hc) hp)).trans hc
/-- Block g is just these cells of that type, none frozen. -/
def Blk (w : World) (g : Nat) (t : TypeId) (cs : Array Value) : Prop := w.heap[g]? = some (.cells cs t (0, 0))
theorem Blk.lt {w : World} {g : Nat} {t : TypeId} {cs : Array Value} (h : Blk w g t cs) : g < w.heap.size := (Array.getElem?_eq_some_iff.1 h).1
theorem Blk.cell {w : World} {g : Nat} {t : TypeId} {cs : Array Value} (h : Blk w g t cs) (i : Nat) : w.cell? ⟨g, i, none⟩ = cs[i]? := cell_of_row w g i cs t (0, 0) h
theorem Blk.free {w : World} {g : Nat} {t : TypeId} {cs : Array Value} (h : Blk w g t cs) (i : Nat) : w.frozen? ⟨g, i, none⟩ = false := by
  unfold Blk at h
  simp [World.frozen?, h]
theorem Blk.new (w : World) (t : TypeId) (cs : Array Value) : Blk (w.alloc (.cells cs t)) w.heap.size t cs := heap_alloc_new w _
theorem Blk.alloc {w : World} {g : Nat} {t : TypeId} {cs : Array Value} (h : Blk w g t cs) (o : Obj) : Blk (w.alloc o) g t cs := (Below.heap_alloc w o g h.lt).trans h
theorem Blk.drew {w : World} {g : Nat} {t : TypeId} {cs : Array Value} (h : Blk w g t cs) : Blk w.drew g t cs := h
theorem Blk.put {w : World} {g : Nat} {t : TypeId} {cs : Array Value} (h : Blk w g t cs) (i : Nat) (u : Value) : Blk (w.setCell ⟨g, i, none⟩ u) g t (cs.setIfInBounds i u) := by
  unfold Blk at h ⊢
  simp [World.setCell, Array.getElem?_modify, h]
theorem Blk.far {w : World} {g : Nat} {t : TypeId} {cs : Array Value} (h : Blk w g t cs) {p : Addr} (hp : g ≠ p.block) (u : Value) : Blk (w.setCell p u) g t cs := (Below.heap_setCell w p u g hp).trans h
theorem Blk.only {S : Nat → Prop} {w w' : World} {g : Nat} {t : TypeId} {cs : Array Value} (h : Blk w g t cs) (ho : Only S w w') (hg : ¬ S g) : Blk w' g t cs := (ho.block g h.lt hg).trans h
theorem Blk.below {B : Nat} {w w' : World} {g : Nat} {t : TypeId} {cs : Array Value} (h : Blk w g t cs) (hb : Below B w w') (hg : g < B) : Blk w' g t cs := (hb.block g hg).trans h
theorem Blk.grown {w w' : World} {row : Option Nat} {g : Nat} {t : TypeId} {cs : Array Value} (h : Blk w g t cs) (hb : w.grownBy w' row) (hg : some g ≠ row) : Blk w' g t cs := (hb.block g h.lt hg).trans h
theorem Blk.apart {w : World} {g g' : Nat} {t t' : TypeId} {cs cs' : Array Value} (h : Blk w g t cs) (h' : Blk w g' t' cs') (hne : t ≠ t') : g ≠ g' := by
  rintro rfl
  unfold Blk at h h'
  rw [h] at h'
  injection h' with h'
  injection h' with _ ht
  exact hne ht
theorem own_apart {w : World} {g : Nat} {t : TypeId} {cs : Array Value} {base : Nat} {e : TypeId} {size n : Nat} {v : Value} {xs : List Value} (h : w.ownsRow base e size v n xs) (hg : Blk w g t cs) (hne : e ≠ t) : v.ownBlock ≠ some g := by
  rcases h.2 with ⟨rfl, _⟩ | ⟨g', cap, cur, rfl, _, hh, _⟩
  · simp [Value.ownBlock]
  · intro he
    have : g' = g := by simpa [Value.ownBlock] using he
    subst this
    exact Blk.apart (t := e) hh hg hne rfl
theorem own_keep {w w' : World} {base : Nat} {e : TypeId} {size n : Nat} {v : Value} {xs : List Value} (h : w.ownsRow base e size v n xs) (hk : ∀ g, v.ownBlock = some g → w'.heap[g]? = w.heap[g]?) : w'.ownsRow base e size v n xs := by
  refine ⟨h.1, ?_⟩
  rcases h.2 with hn | ⟨g, cap, cur, rfl, hb, hgg, rest⟩
  · exact .inl hn
  · exact .inr ⟨g, cap, cur, rfl, hb, (hk g rfl).trans hgg, rest⟩
theorem own_base {w : World} {base base' : Nat} {e : TypeId} {size n : Nat} {v : Value} {xs : List Value} (h : w.ownsRow base e size v n xs) (hk : ∀ g, v.ownBlock = some g → base' ≤ g) : w.ownsRow base' e size v n xs := by
  refine ⟨h.1, ?_⟩
  rcases h.2 with hn | ⟨g, cap, cur, rfl, hb, hgg, rest⟩
  · exact .inl hn
  · exact .inr ⟨g, cap, cur, rfl, hk g rfl, hgg, rest⟩
/-- Block g is a row of texts (of type e): its first ones are xs, it has room for cap. -/
def Txts (w : World) (e : TypeId) (g cap : Nat) (xs : List ByteArray) : Prop :=
  ∃ cur : Array Value, Blk w g e cur ∧ cur.size = cap ∧ xs.length ≤ cap ∧ cap ≤ maxLen ∧ cur.toList.take xs.length = xs.map .string
theorem Txts.lt {w : World} {e : TypeId} {g cap : Nat} {xs : List ByteArray} (h : Txts w e g cap xs) : g < w.heap.size := by
  obtain ⟨cur, hb, _⟩ := h
  exact hb.lt
theorem Txts.keep {w w' : World} {e : TypeId} {g cap : Nat} {xs : List ByteArray} (h : Txts w e g cap xs) (hk : w'.heap[g]? = w.heap[g]?) : Txts w' e g cap xs := by
  obtain ⟨cur, hb, hr⟩ := h
  exact ⟨cur, hk.trans hb, hr⟩
theorem Txts.free {w : World} {e : TypeId} {g cap : Nat} {xs : List ByteArray} (h : Txts w e g cap xs) (i : Nat) : w.frozen? ⟨g, i, none⟩ = false := by
  obtain ⟨cur, hb, _⟩ := h
  exact hb.free i
theorem Txts.cell {w : World} {e : TypeId} {g cap : Nat} {xs : List ByteArray} (h : Txts w e g cap xs) {i : Nat} {s : ByteArray} (hi : xs[i]? = some s) : w.cell? ⟨g, i, none⟩ = some (.string s) := by
  obtain ⟨cur, hb, _, _, _, ht⟩ := h
  rw [hb.cell]
  have hl : i < xs.length := (List.getElem?_eq_some_iff.1 hi).1
  have := congrArg (fun l => l[i]?) ht
  simp only [List.getElem?_take, hl, if_true, List.getElem?_map, hi] at this
  simpa using this
theorem Txts.put {w : World} {e : TypeId} {g cap : Nat} {xs : List ByteArray} (h : Txts w e g cap xs) (i : Nat) (s : ByteArray) : Txts (w.setCell ⟨g, i, none⟩ (.string s)) e g cap (xs.set i s) := by
  obtain ⟨cur, hb, hs, hl, hm, ht⟩ := h
  refine ⟨_, hb.put i _, by simpa using hs, by simpa using hl, hm, ?_⟩
  rw [List.map_set, ← ht, List.length_set]
  rw [Array.toList_setIfInBounds, List.take_set]
theorem Txts.far {w : World} {e : TypeId} {g cap : Nat} {xs : List ByteArray} (h : Txts w e g cap xs) {p : Addr} (hp : g ≠ p.block) (u : Value) : Txts (w.setCell p u) e g cap xs := h.keep (Below.heap_setCell w p u g hp)
theorem Txts.alloc {w : World} {e : TypeId} {g cap : Nat} {xs : List ByteArray} (h : Txts w e g cap xs) (o : Obj) : Txts (w.alloc o) e g cap xs := h.keep (Below.heap_alloc w o g h.lt)
theorem Txts.only {S : Nat → Prop} {w w' : World} {e : TypeId} {g cap : Nat} {xs : List ByteArray} (h : Txts w e g cap xs) (ho : Only S w w') (hg : ¬ S g) : Txts w' e g cap xs := h.keep (ho.block g h.lt hg)
theorem Txts.own {w : World} {e : TypeId} {g cap : Nat} {xs : List ByteArray} (h : Txts w e g cap xs) {base : Nat} (hb : base ≤ g) : w.ownsRow base e 1 (.slice (some ⟨g, 0, none⟩) xs.length cap) xs.length (xs.map .string) := by
  obtain ⟨cur, hbk, hs, hl, hm, ht⟩ := h
  exact ⟨by simp, .inr ⟨g, cap, cur, rfl, hb, hbk, hl, hm, by omega, by simpa using ht⟩⟩
theorem Txts.of_own {w : World} {e : TypeId} {base n : Nat} {v : Value} {xs : List ByteArray} (h : w.ownsRow base e 1 v n (xs.map .string)) (hn : 0 < n) :
    ∃ g cap, v = .slice (some ⟨g, 0, none⟩) n cap ∧ base ≤ g ∧ xs.length = n ∧ Txts w e g cap xs := by
  have hl : xs.length = n := by simpa using h.1
  rcases h.2 with ⟨_, h0⟩ | ⟨g, cap, cur, rfl, hb, hg, hnc, hm, hs, ht⟩
  · omega
  · exact ⟨g, cap, rfl, hb, hl, cur, hg, by simpa using hs, by omega, hm, by simpa [hl] using ht⟩
theorem Txts.type {w : World} {e t : TypeId} {g g' cap : Nat} {cs : Array Value} {xs : List ByteArray} (h : Txts w e g cap xs) (hb : Blk w g' t cs) (hne : e ≠ t) : g ≠ g' := by
  obtain ⟨cur, hbk, _⟩ := h
  exact hbk.apart hb hne
structure St where
  ops : Nat
  safe : List ByteArray
  held : List (Nat × ByteArray)
  armed : Bool
  left : Nat
  down : Bool
def putHs (l : List ByteArray) (h : Nat × ByteArray) : List ByteArray := l.set h.1 h.2
def putAll (l : List ByteArray) (hs : List (Nat × ByteArray)) : List ByteArray := hs.foldl putHs l
def St.seen (x : St) : List ByteArray := putAll x.safe x.held
structure St.Good (x : St) (n : Nat) : Prop where
  pos : 1 ≤ n
  most : n ≤ 8192
  size : x.safe.length = n
  secs : ∀ s ∈ x.safe, s.size = 512
  place : ∀ h ∈ x.held, h.1 < n ∧ h.2.size = 512
  few : x.held.length ≤ x.ops
  left : x.left ≤ 9223372036854775807
def St.due (x : St) : Bool := x.armed && x.left == 0
def St.fall (x : St) : St := { x with down := true }
def St.oped (x : St) : St := { x with ops := x.ops + 1, left := if x.armed then x.left - 1 else x.left }
def St.hold (x : St) (i : Nat) (s : ByteArray) : St := { x with held := x.held ++ [(i, s)] }
def sec (s : ByteArray) (k : Nat) : ByteArray := s.extract (k * 512) ((k + 1) * 512)
def St.wr (i : Nat) (s : ByteArray) : Nat → Nat → St → St × Bool
  | _, 0, x => (x, true)
  | k, m + 1, x => if x.due then (x.fall, false) else St.wr i s (k + 1) m (x.oped.hold (i + k) (sec s k))
def kept (keep : List Int) (k : Nat) : Nat :=
  match keep[k]? with
  | none => 0
  | some v => (min (max v 0) 512).toNat
def mixS (n : Nat) (d old : ByteArray) : ByteArray := d.extract 0 n ++ old.extract n old.size
def tear1 (l : List ByteArray) (h : Nat × ByteArray) (n : Nat) : List ByteArray := l.set h.1 (mixS n h.2 (l.getD h.1 ByteArray.empty))
def tearN (safe : List ByteArray) (held : List (Nat × ByteArray)) (keep : List Int) : Nat → List ByteArray
  | 0 => safe
  | k + 1 => match held[k]? with
    | none => tearN safe held keep k
    | some h => tear1 (tearN safe held keep k) h (kept keep k)
def St.flushed (x : St) : St := { x.oped with safe := x.seen, held := [] }
def St.crash (x : St) (keep : List Int) : St := { x with safe := tearN x.safe x.held keep x.held.length, held := [], armed := false, down := false }
def St.new (n : Nat) : St := { ops := 0, safe := List.replicate n ⟨Array.replicate 512 0⟩, held := [], armed := false, left := 0, down := false }

theorem putAll_length (l : List ByteArray) (hs : List (Nat × ByteArray)) : (putAll l hs).length = l.length := by
  unfold putAll
  induction hs generalizing l with
  | nil => rfl
  | cons h hs ih => rw [List.foldl_cons, ih]; simp [putHs]
theorem putAll_snoc (l : List ByteArray) (hs : List (Nat × ByteArray)) (h : Nat × ByteArray) : putAll l (hs ++ [h]) = (putAll l hs).set h.1 h.2 := by
  simp [putAll, putHs]
theorem seen_length (x : St) : x.seen.length = x.safe.length := putAll_length _ _
theorem seen_hold (x : St) (i : Nat) (s : ByteArray) : (x.hold i s).seen = x.seen.set i s := putAll_snoc _ _ _
theorem mem_set {l : List ByteArray} {i : Nat} {a s : ByteArray} (h : s ∈ l.set i a) : s ∈ l ∨ s = a := by
  rcases List.mem_or_eq_of_mem_set h with h | h
  · exact .inl h
  · exact .inr h
theorem putAll_secs {l : List ByteArray} {hs : List (Nat × ByteArray)} (h : ∀ s ∈ l, s.size = 512) (hp : ∀ h ∈ hs, h.2.size = 512) : ∀ s ∈ putAll l hs, s.size = 512 := by
  unfold putAll
  induction hs generalizing l with
  | nil => exact h
  | cons a hs ih =>
    rw [List.foldl_cons]
    refine ih (fun s hs' => ?_) (fun x hx => hp x (List.mem_cons_of_mem _ hx))
    rcases mem_set hs' with h' | h'
    · exact h s h'
    · rw [h']; exact hp a (List.mem_cons_self ..)
theorem seen_secs {x : St} {n : Nat} (hx : x.Good n) : ∀ s ∈ x.seen, s.size = 512 := putAll_secs hx.secs fun h hh => (hx.place h hh).2
theorem good_fall {x : St} {n : Nat} (hx : x.Good n) : x.fall.Good n := ⟨hx.pos, hx.most, hx.size, hx.secs, hx.place, hx.few, hx.left⟩
theorem good_oped {x : St} {n : Nat} (hx : x.Good n) : x.oped.Good n :=
  ⟨hx.pos, hx.most, hx.size, hx.secs, hx.place, Nat.le_succ_of_le hx.few, by
    have := hx.left
    show (if x.armed then x.left - 1 else x.left) ≤ 9223372036854775807
    split <;> omega⟩
theorem good_op_hold {x : St} {n : Nat} (hx : x.Good n) {i : Nat} {s : ByteArray} (hi : i < n) (hs : s.size = 512) : (x.oped.hold i s).Good n :=
  ⟨hx.pos, hx.most, hx.size, hx.secs, fun h hh => by
    rcases List.mem_append.1 hh with hh | hh
    · exact hx.place h hh
    · rw [List.mem_singleton.1 hh]; exact ⟨hi, hs⟩, by
    have := hx.few
    show (x.held ++ [(i, s)]).length ≤ x.ops + 1
    simp; omega, (good_oped hx).left⟩
theorem kept_le (keep : List Int) (k : Nat) : kept keep k ≤ 512 := by
  unfold kept
  split <;> omega
theorem mix_size {n : Nat} {d old : ByteArray} (hn : n ≤ 512) (hd : d.size = 512) (ho : old.size = 512) : (mixS n d old).size = 512 := by
  unfold mixS
  simp [ByteArray.size_append, ByteArray.size_extract]
  omega
theorem tearN_length (safe : List ByteArray) (held : List (Nat × ByteArray)) (keep : List Int) (k : Nat) : (tearN safe held keep k).length = safe.length := by
  induction k with
  | zero => rfl
  | succ k ih =>
    unfold tearN
    split
    · exact ih
    · simp [tear1, ih]
theorem tearN_secs {safe : List ByteArray} {held : List (Nat × ByteArray)} {keep : List Int} (hs : ∀ s ∈ safe, s.size = 512) (hh : ∀ h ∈ held, h.1 < safe.length ∧ h.2.size = 512) (k : Nat) : ∀ s ∈ tearN safe held keep k, s.size = 512 := by
  induction k with
  | zero => exact hs
  | succ k ih =>
    unfold tearN
    split
    · exact ih
    · rename_i h hk
      intro s hs'
      rcases mem_set hs' with h' | h'
      · exact ih s h'
      · rw [h']
        have hm := hh h (List.mem_of_getElem? hk)
        refine mix_size (kept_le _ _) hm.2 (ih _ ?_)
        have hl : h.1 < (tearN safe held keep k).length := by rw [tearN_length]; exact hm.1
        rw [List.getD_eq_getElem?_getD, List.getElem?_eq_getElem hl, Option.getD_some]
        exact List.getElem_mem _
theorem good_crash {x : St} {n : Nat} (hx : x.Good n) (keep : List Int) : (x.crash keep).Good n :=
  ⟨hx.pos, hx.most, (tearN_length ..).trans hx.size, tearN_secs hx.secs (fun h hh => by rw [hx.size]; exact hx.place h hh) _, fun h hh => (by cases hh), Nat.zero_le _, hx.left⟩
theorem good_new {n : Nat} (h1 : 1 ≤ n) (h2 : n ≤ 8192) : (St.new n).Good n :=
  ⟨h1, h2, by simp [St.new], fun s hs => by rw [(List.mem_replicate.1 hs).2]; exact Array.size_replicate, fun h hh => (by cases hh), Nat.le_refl _, by simp [St.new]⟩
/-- The writes that are held back, as cells. -/
def heldCells (l : List (Nat × ByteArray)) : List Value := l.flatMap fun h => [.int .i64 (h.1 : Int), .string h.2]
theorem heldCells_at {l : List (Nat × ByteArray)} {k : Nat} {h : Nat × ByteArray} (hk : l[k]? = some h) : (heldCells l)[k * 2]? = some (.int .i64 (h.1 : Int)) ∧ (heldCells l)[k * 2 + 1]? = some (.string h.2) := by
  unfold heldCells
  induction l generalizing k with
  | nil => cases hk
  | cons a l ih =>
    cases k with
    | zero => simp at hk; subst hk; simp [List.flatMap_cons]
    | succ k =>
      have := ih (k := k) (by simpa using hk)
      rw [List.flatMap_cons, show (k + 1) * 2 = k * 2 + 1 + 1 from by omega]
      simpa using this
theorem heldCells_snoc (l : List (Nat × ByteArray)) (i : Nat) (s : ByteArray) : heldCells (l ++ [(i, s)]) = heldCells l ++ [.int .i64 (i : Int), .string s] := by
  simp [heldCells]
end Go.Proofs.YtglfjlbhjaemgaaGreatDoor
