/- Both Units side by side, and a step's box beside them. -/
import Derived.Test.YtacogfllnhopoaaUqE
import Derived.Test.YtacogfllnhopoaaUnM
import Derived.Test.YtacogfllnhopoaaUnO
namespace Go.Proofs.Ytacogfllnhopoaa
open Go.RowKit Go.Maps
/-- The program's Units at p keeps f, the document's at q keeps f2 in at most i rows; both made since w0. -/
def PB (w0 w : World) (p q : Nat) (f f2 : PF) (i : Nat) : Prop :=
  ∃ F G, Un w F p f ∧ RQ i w G q f2 ∧ (∀ k, F k → w0.heap.size ≤ k) ∧ (∀ k, G k → w0.heap.size ≤ k) ∧ (∀ k, F k → ¬ G k) ∧ Below w0.heap.size w0 w
/-- .. and a step in its box. -/
def PX (w0 w : World) (p q : Nat) (f f2 : PF) (i s : Nat) (cs : Array Value) : Prop :=
  ∃ F G, Un w F p f ∧ RQ i w G q f2 ∧ (∀ k, F k → w0.heap.size ≤ k) ∧ (∀ k, G k → w0.heap.size ≤ k) ∧ (∀ k, F k → ¬ G k) ∧ Below w0.heap.size w0 w ∧ Blk w s 30 cs ∧ ¬ F s ∧ ¬ G s
theorem PX.pb {w0 w : World} {p q : Nat} {f f2 : PF} {i s : Nat} {cs : Array Value} (h : PX w0 w p q f f2 i s cs) : PB w0 w p q f f2 i := by
  obtain ⟨F, G, h1, h2, h3, h4, h5, h6, _⟩ := h
  exact ⟨F, G, h1, h2, h3, h4, h5, h6⟩
theorem PB.mono {w0 w : World} {p q : Nat} {f f2 : PF} {i j : Nat} (h : PB w0 w p q f f2 i) (hj : i ≤ j) : PB w0 w p q f f2 j := by
  obtain ⟨F, G, h1, ⟨l, k1, k2, k3, k4⟩, h3⟩ := h
  exact ⟨F, G, h1, ⟨l, k1, k2, k3, Nat.le_trans k4 hj⟩, h3⟩
theorem PX.mono {w0 w : World} {p q : Nat} {f f2 : PF} {i j s : Nat} {cs : Array Value} (h : PX w0 w p q f f2 i s cs) (hj : i ≤ j) : PX w0 w p q f f2 j s cs := by
  obtain ⟨F, G, h1, ⟨l, k1, k2, k3, k4⟩, h3⟩ := h
  exact ⟨F, G, h1, ⟨l, k1, k2, k3, Nat.le_trans k4 hj⟩, h3⟩
theorem PB.box {w0 w : World} {p q : Nat} {f f2 : PF} {i : Nat} (h : PB w0 w p q f f2 i) (cs : Array Value) : PX w0 (w.alloc (.cells cs 30)) p q f f2 i w.heap.size cs := by
  obtain ⟨F, G, h1, h2, h3, h4, h5, h6⟩ := h
  have hb : Below w.heap.size w (w.alloc (.cells cs 30)) := (Below.refl _ _).alloc (Nat.le_refl _) _
  exact ⟨F, G, h1.keep (S := nobody) (Only.of_below hb) (fun _ _ h => h), h2.keep (S := nobody) (Only.of_below hb) (fun _ _ h => h), h3, h4, h5, h6.alloc h6.size _, Blk.new w 30 cs, fun h => Nat.lt_irrefl _ (h1.lt _ h), fun h => Nat.lt_irrefl _ (h2.lt _ h)⟩
theorem PX.more {w0 w w' : World} {p q : Nat} {f f2 : PF} {i s : Nat} {cs : Array Value} (h : PX w0 w p q f f2 i s cs) (hb : Below w.heap.size w w') : PX w0 w' p q f f2 i s cs := by
  obtain ⟨F, G, h1, h2, h3, h4, h5, h6, h7, h8, h9⟩ := h
  exact ⟨F, G, h1.keep (S := nobody) (Only.of_below hb) (fun _ _ h => h), h2.keep (S := nobody) (Only.of_below hb) (fun _ _ h => h), h3, h4, h5, h6.trans (hb.mono h6.size), h7.only (Only.of_below (S := nobody) hb) (fun h => h), h8, h9⟩
section
variable {w0 w : World} {p q : Nat} {f f2 : PF} {i s : Nat} {cs : Array Value}
theorem PX.callF {f' : PF} (h : PX w0 w p q f f2 i s cs) {fn : Nat} {args : Array Value} {E : Ending → Prop} (hc : ∀ F, Un w F p f → Calls Try.prog fn args w fun e w' => E e ∧ UnOut F w p f' w') :
    Calls Try.prog fn args w fun e w' => E e ∧ PX w0 w' p q f' f2 i s cs := by
  obtain ⟨F0, G0, k1, k2, k3, k4, k5, k6, k7, k8, k9⟩ := h
  exact (hc F0 k1).mono fun e w' ⟨e1, e2⟩ => ⟨e1, by
    obtain ⟨ho', F', j1, j2⟩ := e2
    exact ⟨F', G0, j1, k2.keep ho' (fun k hk hf => k5 k hf hk), fun k hk => (j2 k hk).elim (k3 k) (fun h => Nat.le_trans k6.size h), k4, fun k hk hg => (j2 k hk).elim (fun hf => k5 k hf hg) (fun h => absurd (k2.lt k hg) (Nat.not_lt.2 h)), k6.trans (ho'.toBelow k6.size k3), k7.only ho' k8, fun hs => (j2 s hs).elim k8 (fun h => absurd k7.lt (Nat.not_lt.2 h)), k9⟩⟩
theorem PX.callG {f' : PF} {j : Nat} (h : PX w0 w p q f f2 i s cs) {fn : Nat} {args : Array Value} {E : Ending → Prop} (hc : ∀ G, RQ i w G q f2 → Calls Try.prog fn args w fun e w' => E e ∧ RqOut j G w q f' w') :
    Calls Try.prog fn args w fun e w' => E e ∧ PX w0 w' p q f f' j s cs := by
  obtain ⟨F, G, h1, h2, h3, h4, h5, h6, h7, h8, h9⟩ := h
  exact (hc G h2).mono fun e w' ⟨e1, e2⟩ => ⟨e1, by
    obtain ⟨ho, G', k1, k2⟩ := e2
    exact ⟨F, G', h1.keep ho h5, k1, h3, fun k hk => (k2 k hk).elim (h4 k) (fun h => Nat.le_trans h6.size h), fun k hk hg => (k2 k hg).elim (fun h => h5 k hk h) (fun h => absurd (h1.lt k hk) (Nat.not_lt.2 h)), h6.trans (ho.toBelow h6.size h4), h7.only ho h9, h8, fun hs => (k2 s hs).elim h9 (fun h => absurd h7.lt (Nat.not_lt.2 h))⟩⟩
theorem px_add (h : PX w0 w p q f f2 i s cs) (l : Int) (ho : ByteArray) (x : Int) (hk : IsKv (kv l ho)) (hs : ho.size ≤ maxLen) :
    Calls Try.prog 8 #[.pointer (some ⟨p, 0, none⟩), .int .i64 l, .string ho, .int .i64 x] w fun e w' => e = .returned (.bool (addB f l ho x)) ∧ PX w0 w' p q (addF f l ho x) f2 i s cs :=
  h.callF (E := fun e => e = .returned (.bool (addB f l ho x))) fun _ hF => add_any w hF l ho x hk hs
theorem px_radd (h : PX w0 w p q f f2 i s cs) (hi : i ≤ 1000000) (l : Int) (ho : ByteArray) (x : Int) (hs : ho.size ≤ maxLen) :
    Calls Try.prog 9 #[.pointer (some ⟨q, 0, none⟩), .int .i64 l, .string ho, .int .i64 x] w fun e w' => e = .returned (.bool (addB f2 l ho x)) ∧ PX w0 w' p q f (addF f2 l ho x) (i + 1) s cs :=
  h.callG (E := fun e => e = .returned (.bool (addB f2 l ho x))) fun _ hG => radd_any w hG hi l ho x hs
theorem px_take (h : PX w0 w p q f f2 i s cs) (l : Int) (ho : ByteArray) (hk : IsKv (kv l ho)) :
    Calls Try.prog 10 #[.pointer (some ⟨p, 0, none⟩), .int .i64 l, .string ho] w fun e w' => e = .returned (.tuple #[.int .i64 ((f l ho).headD 0), .bool (decide (f l ho ≠ []))]) ∧ PX w0 w' p q (takeF f l ho) f2 i s cs :=
  h.callF (E := fun e => e = .returned (.tuple #[.int .i64 ((f l ho).headD 0), .bool (decide (f l ho ≠ []))])) fun _ hF => take_any w hF l ho hk
theorem px_rtake (h : PX w0 w p q f f2 i s cs) (l : Int) (ho : ByteArray) :
    Calls Try.prog 11 #[.pointer (some ⟨q, 0, none⟩), .int .i64 l, .string ho] w fun e w' => e = .returned (.tuple #[.int .i64 ((f2 l ho).headD 0), .bool (decide (f2 l ho ≠ []))]) ∧ PX w0 w' p q f (takeF f2 l ho) i s cs :=
  h.callG (E := fun e => e = .returned (.tuple #[.int .i64 ((f2 l ho).headD 0), .bool (decide (f2 l ho ≠ []))])) fun _ hG => rtake_any w hG l ho
theorem px_forget (h : PX w0 w p q f f2 i s cs) (ho : ByteArray) (hs : ho.size ≤ maxLen) :
    Calls Try.prog 12 #[.pointer (some ⟨p, 0, none⟩), .string ho] w fun e w' => e = .returned (.tuple #[]) ∧ PX w0 w' p q (forgetF f ho) f2 i s cs :=
  h.callF (E := fun e => e = .returned (.tuple #[])) fun F hF => (forget_any w hF ho hs).mono fun _ _ ⟨h1, h2, h3⟩ => ⟨h1, h3, F, h2, fun _ h => .inl h⟩
theorem px_rforget (h : PX w0 w p q f f2 i s cs) (ho : ByteArray) :
    Calls Try.prog 13 #[.pointer (some ⟨q, 0, none⟩), .string ho] w fun e w' => e = .returned (.tuple #[]) ∧ PX w0 w' p q f (forgetF f2 ho) i s cs :=
  h.callG (E := fun e => e = .returned (.tuple #[])) fun _ hG => rforget_any w hG ho
theorem px_wait (h : PX w0 w p q f f2 i s cs) (l : Int) (ho : ByteArray) (hk : IsKv (kv l ho)) :
    Calls Try.prog 14 #[.pointer (some ⟨p, 0, none⟩), .int .i64 l, .string ho] w fun e w' => e = .returned (.int .i64 (f l ho).length) ∧ w = w' := by
  obtain ⟨F, G, h1, _⟩ := h
  exact wait_any w h1 hk
theorem px_rwait (h : PX w0 w p q f f2 i s cs) (l : Int) (ho : ByteArray) :
    Calls Try.prog 15 #[.pointer (some ⟨q, 0, none⟩), .int .i64 l, .string ho] w fun e w' => e = .returned (.int .i64 (f2 l ho).length) ∧ w = w' := by
  obtain ⟨F, G, h1, h2, _⟩ := h
  exact rwait_any w h2 l ho
theorem px_hosts (h : PX w0 w p q f f2 i s cs) (l : Int) {m : Nat} (hs : Small f m) (hm : m ≤ 1000000) :
    Calls Try.prog 17 #[.pointer (some ⟨p, 0, none⟩), .int .i64 l] w fun e w' => ∃ A c hl, e = .returned (.slice A hl.length c) ∧ (HostsOf f l hl ∧ hl.length ≤ 1000000) ∧ PX w0 w' p q f f2 i s cs ∧ w'.ownsRow w.heap.size 9 1 (.slice A hl.length c) hl.length (hl.map .string) := by
  have hx := h
  obtain ⟨F, G, h1, _⟩ := h
  exact (hosts_any w h1 l hs hm).mono fun e w' ⟨A, c, hl, k1, k2, k3, k4⟩ => ⟨A, c, hl, k1, ⟨k2, Nat.le_trans (hs.len k2.once fun h hh => (k2.iff h).1 hh) hm⟩, hx.more k3, k4⟩
theorem px_rhosts (h : PX w0 w p q f f2 i s cs) (hi : i ≤ 1000000) (l : Int) :
    Calls Try.prog 18 #[.pointer (some ⟨q, 0, none⟩), .int .i64 l] w fun e w' => ∃ A c hl, e = .returned (.slice A hl.length c) ∧ HostsOf f2 l hl ∧ PX w0 w' p q f f2 i s cs ∧ Below w.heap.size w w' ∧ w'.ownsRow w.heap.size 9 1 (.slice A hl.length c) hl.length (hl.map .string) := by
  have hx := h
  obtain ⟨F, G, h1, ⟨L, k1, k2, k3, k4⟩, _⟩ := h
  exact (rhosts_any w k1 l (Nat.le_trans k4 hi)).mono fun e w' ⟨A, c, j1, j2, j3⟩ => ⟨A, c, hostsL l L, j1, k2 ▸ hostsL_of k3 l, hx.more j2, j2, j3⟩
end
/-- The document's Units, just made. -/
theorem pb_new {w0 w : World} {p : Nat} (h : OU w0 w p noF) : PB w0 (w.alloc (.cells #[.slice none 0 0] 28)) p w.heap.size noF noF 0 := by
  obtain ⟨⟨F, h1, h2⟩, h3⟩ := h
  have hb : Below w.heap.size w (w.alloc (.cells #[.slice none 0 0] 28)) := (Below.refl _ _).alloc (Nat.le_refl _) _
  refine ⟨F, fun k => k = w.heap.size, h1.keep (S := nobody) (Only.of_below hb) (fun _ _ h => h), ⟨[], ⟨none, 0, Blk.new w 28 _, ⟨rfl, .inl ⟨rfl, rfl⟩⟩, rfl, (fun g hg => by cases hg), (fun x hx => by cases hx), fun k hk => ?_⟩, rfl, ⟨.nil, .nil, (fun x hx => by cases hx)⟩, Nat.le_refl _⟩, h2, fun k hk => ?_, fun k hk hg => ?_, h3.alloc h3.size _⟩
  · subst hk; simp
  · subst hk; exact h3.size
  · subst hg; exact Nat.lt_irrefl _ (h1.lt _ hk)
end Go.Proofs.Ytacogfllnhopoaa
