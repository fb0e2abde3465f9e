/- A device as the document has it: what is safe, what is held back, and what each call makes of it. -/
import Derived.Test.YtgdaihembmcamaaGreatDoorDevMem
namespace Go.Proofs.YtgdaihembmcamaaGreatDoor
structure St where
  ops : Nat
  safe : List ByteArray
  held : List (Nat × ByteArray)
  armed : Bool
  left : Nat
  down : Bool
def putHs (l : List ByteArray) (h : Nat × ByteArray) : List ByteArray := l.set h.1 h.2
def putAll (l : List ByteArray) (hs : List (Nat × ByteArray)) : List ByteArray := hs.foldl putHs l
def St.seen (x : St) : List ByteArray := putAll x.safe x.held
structure St.Good (x : St) (n : Nat) : Prop where
  pos : 1 ≤ n
  most : n ≤ 8192
  size : x.safe.length = n
  secs : ∀ s ∈ x.safe, s.size = 512
  place : ∀ h ∈ x.held, h.1 < n ∧ h.2.size = 512
  few : x.held.length ≤ x.ops
  left : x.left ≤ 9223372036854775807
def St.due (x : St) : Bool := x.armed && x.left == 0
def St.fall (x : St) : St := { x with down := true }
def St.oped (x : St) : St := { x with ops := x.ops + 1, left := if x.armed then x.left - 1 else x.left }
def St.hold (x : St) (i : Nat) (s : ByteArray) : St := { x with held := x.held ++ [(i, s)] }
def sec (s : ByteArray) (k : Nat) : ByteArray := s.extract (k * 512) ((k + 1) * 512)
def St.wr (i : Nat) (s : ByteArray) : Nat → Nat → St → St × Bool
  | _, 0, x => (x, true)
  | k, m + 1, x => if x.due then (x.fall, false) else St.wr i s (k + 1) m (x.oped.hold (i + k) (sec s k))
def kept (keep : List Int) (k : Nat) : Nat :=
  match keep[k]? with
  | none => 0
  | some v => (min (max v 0) 512).toNat
def mixS (n : Nat) (d old : ByteArray) : ByteArray := d.extract 0 n ++ old.extract n old.size
def tear1 (l : List ByteArray) (h : Nat × ByteArray) (n : Nat) : List ByteArray := l.set h.1 (mixS n h.2 (l.getD h.1 ByteArray.empty))
def tearN (safe : List ByteArray) (held : List (Nat × ByteArray)) (keep : List Int) : Nat → List ByteArray
  | 0 => safe
  | k + 1 => match held[k]? with
    | none => tearN safe held keep k
    | some h => tear1 (tearN safe held keep k) h (kept keep k)
def St.flushed (x : St) : St := { x.oped with safe := x.seen, held := [] }
def St.arm (x : St) (n : Int) : St := { x with armed := true, left := (max n 0).toNat }
def St.crash (x : St) (keep : List Int) : St := { x with safe := tearN x.safe x.held keep x.held.length, held := [], armed := false, down := false }
def St.new (n : Nat) : St := { ops := 0, safe := List.replicate n ⟨Array.replicate 512 0⟩, held := [], armed := false, left := 0, down := false }

theorem putAll_length (l : List ByteArray) (hs : List (Nat × ByteArray)) : (putAll l hs).length = l.length := by
  unfold putAll
  induction hs generalizing l with
  | nil => rfl
  | cons h hs ih => rw [List.foldl_cons, ih]; simp [putHs]
theorem putAll_snoc (l : List ByteArray) (hs : List (Nat × ByteArray)) (h : Nat × ByteArray) : putAll l (hs ++ [h]) = (putAll l hs).set h.1 h.2 := by
  simp [putAll, putHs]
theorem seen_length (x : St) : x.seen.length = x.safe.length := putAll_length _ _
theorem seen_hold (x : St) (i : Nat) (s : ByteArray) : (x.hold i s).seen = x.seen.set i s := putAll_snoc _ _ _
theorem seen_oped (x : St) : x.oped.seen = x.seen := rfl
theorem mem_set {l : List ByteArray} {i : Nat} {a s : ByteArray} (h : s ∈ l.set i a) : s ∈ l ∨ s = a := by
  rcases List.mem_or_eq_of_mem_set h with h | h
  · exact .inl h
  · exact .inr h
theorem putAll_secs {l : List ByteArray} {hs : List (Nat × ByteArray)} (h : ∀ s ∈ l, s.size = 512) (hp : ∀ h ∈ hs, h.2.size = 512) : ∀ s ∈ putAll l hs, s.size = 512 := by
  unfold putAll
  induction hs generalizing l with
  | nil => exact h
  | cons a hs ih =>
    rw [List.foldl_cons]
    refine ih (fun s hs' => ?_) (fun x hx => hp x (List.mem_cons_of_mem _ hx))
    rcases mem_set hs' with h' | h'
    · exact h s h'
    · rw [h']; exact hp a (List.mem_cons_self ..)
theorem seen_secs {x : St} {n : Nat} (hx : x.Good n) : ∀ s ∈ x.seen, s.size = 512 := putAll_secs hx.secs fun h hh => (hx.place h hh).2
theorem good_fall {x : St} {n : Nat} (hx : x.Good n) : x.fall.Good n := ⟨hx.pos, hx.most, hx.size, hx.secs, hx.place, hx.few, hx.left⟩
theorem good_oped {x : St} {n : Nat} (hx : x.Good n) : x.oped.Good n :=
  ⟨hx.pos, hx.most, hx.size, hx.secs, hx.place, Nat.le_succ_of_le hx.few, by
    have := hx.left
    show (if x.armed then x.left - 1 else x.left) ≤ 9223372036854775807
    split <;> omega⟩
theorem good_op_hold {x : St} {n : Nat} (hx : x.Good n) {i : Nat} {s : ByteArray} (hi : i < n) (hs : s.size = 512) : (x.oped.hold i s).Good n :=
  ⟨hx.pos, hx.most, hx.size, hx.secs, fun h hh => by
    rcases List.mem_append.1 hh with hh | hh
    · exact hx.place h hh
    · rw [List.mem_singleton.1 hh]; exact ⟨hi, hs⟩, by
    have := hx.few
    show (x.held ++ [(i, s)]).length ≤ x.ops + 1
    simp; omega, (good_oped hx).left⟩
theorem good_flushed {x : St} {n : Nat} (hx : x.Good n) : x.flushed.Good n :=
  ⟨hx.pos, hx.most, (seen_length x).trans hx.size, seen_secs hx, fun h hh => (by cases hh), Nat.zero_le _, (good_oped hx).left⟩
theorem good_arm {x : St} {n : Nat} (hx : x.Good n) (k : Int) (hk : k ≤ 9223372036854775807) : (x.arm k).Good n :=
  ⟨hx.pos, hx.most, hx.size, hx.secs, hx.place, hx.few, by show (max k 0).toNat ≤ _; omega⟩
theorem kept_le (keep : List Int) (k : Nat) : kept keep k ≤ 512 := by
  unfold kept
  split <;> omega
theorem mix_size {n : Nat} {d old : ByteArray} (hn : n ≤ 512) (hd : d.size = 512) (ho : old.size = 512) : (mixS n d old).size = 512 := by
  unfold mixS
  simp [ByteArray.size_append, ByteArray.size_extract]
  omega
theorem tearN_length (safe : List ByteArray) (held : List (Nat × ByteArray)) (keep : List Int) (k : Nat) : (tearN safe held keep k).length = safe.length := by
  induction k with
  | zero => rfl
  | succ k ih =>
    unfold tearN
    split
    · exact ih
    · simp [tear1, ih]
theorem tearN_secs {safe : List ByteArray} {held : List (Nat × ByteArray)} {keep : List Int} (hs : ∀ s ∈ safe, s.size = 512) (hh : ∀ h ∈ held, h.1 < safe.length ∧ h.2.size = 512) (k : Nat) : ∀ s ∈ tearN safe held keep k, s.size = 512 := by
  induction k with
  | zero => exact hs
  | succ k ih =>
    unfold tearN
    split
    · exact ih
    · rename_i h hk
      intro s hs'
      rcases mem_set hs' with h' | h'
      · exact ih s h'
      · rw [h']
        have hm := hh h (List.mem_of_getElem? hk)
        refine mix_size (kept_le _ _) hm.2 (ih _ ?_)
        have hl : h.1 < (tearN safe held keep k).length := by rw [tearN_length]; exact hm.1
        rw [List.getD_eq_getElem?_getD, List.getElem?_eq_getElem hl, Option.getD_some]
        exact List.getElem_mem _
theorem good_crash {x : St} {n : Nat} (hx : x.Good n) (keep : List Int) : (x.crash keep).Good n :=
  ⟨hx.pos, hx.most, (tearN_length ..).trans hx.size, tearN_secs hx.secs (fun h hh => by rw [hx.size]; exact hx.place h hh) _, fun h hh => (by cases hh), Nat.zero_le _, hx.left⟩
theorem good_new {n : Nat} (h1 : 1 ≤ n) (h2 : n ≤ 8192) : (St.new n).Good n :=
  ⟨h1, h2, by simp [St.new], fun s hs => by rw [(List.mem_replicate.1 hs).2]; exact Array.size_replicate, fun h hh => (by cases hh), Nat.le_refl _, by simp [St.new]⟩
/-- The writes that are held back, as cells. -/
def heldCells (l : List (Nat × ByteArray)) : List Value := l.flatMap fun h => [.int .i64 (h.1 : Int), .string h.2]
theorem heldCells_length (l : List (Nat × ByteArray)) : (heldCells l).length = l.length * 2 := by
  unfold heldCells
  induction l with
  | nil => rfl
  | cons a l ih => simp [List.flatMap_cons, ih]; omega
theorem heldCells_at {l : List (Nat × ByteArray)} {k : Nat} {h : Nat × ByteArray} (hk : l[k]? = some h) : (heldCells l)[k * 2]? = some (.int .i64 (h.1 : Int)) ∧ (heldCells l)[k * 2 + 1]? = some (.string h.2) := by
  unfold heldCells
  induction l generalizing k with
  | nil => cases hk
  | cons a l ih =>
    cases k with
    | zero => simp at hk; subst hk; simp [List.flatMap_cons]
    | succ k =>
      have := ih (k := k) (by simpa using hk)
      rw [List.flatMap_cons, show (k + 1) * 2 = k * 2 + 1 + 1 from by omega]
      simpa using this
theorem heldCells_snoc (l : List (Nat × ByteArray)) (i : Nat) (s : ByteArray) : heldCells (l ++ [(i, s)]) = heldCells l ++ [.int .i64 (i : Int), .string s] := by
  simp [heldCells]
end Go.Proofs.YtgdaihembmcamaaGreatDoor
