/- UnitsOrder: what it keeps. -/
import Derived.Test.YtacogfllnhopoaaUnQ
namespace Go.Proofs.Ytacogfllnhopoaa
open Go.ChangeShapes Go.WideShapes Go.ChangeAt Go.RowKit Go.Deep Go.Maps
theorem mod_any (k : Int) (n : Nat) (h : 1 ≤ n) (hn : n ≤ 1000000) (w : World) : Calls Try.prog 21 #[.int .i64 k, .int .i64 (n : Int)] w fun e w' => e = .returned (.int .i64 (k % (n : Int))) ∧ w = w' := by
  have h1 : k.tmod n < n := Int.tmod_lt_of_pos _ (by omega)
  have h2 : -(n : Int) < k.tmod n := by
    have := Int.lt_tmod_of_pos k (show (0 : Int) < n by omega)
    omega
  have h3 : (k.tmod n + n) % (n : Int) = k % n := by rw [Int.add_emod_right, Int.tmod_def, Int.sub_mul_emod_self_left]
  have H3 := Lib.hid h3
  clear h3
  go_enter Try.func21, Try.ntmps21
  go_wp2
  go_ret
  exact ⟨by rw [← H3.out]; rfl, rfl⟩
/-- Numbers that came in. -/
def Nums (w : World) (A : Option Addr) (ks : List Int) : Prop := 0 < ks.length → ∃ b o, A = some ⟨b, o, none⟩ ∧ b < w.heap.size ∧ ∀ (j : Nat) (v : Int), ks[j]? = some v → w.cell? ⟨b, o + j, none⟩ = some (.int .i64 v)
theorem Nums.below {w w' : World} {A : Option Addr} {l : List Int} (h : Nums w A l) (hb : Below w.heap.size w w') : Nums w' A l := fun hn => by
  obtain ⟨b, o, rfl, hl, hc⟩ := h hn
  exact ⟨b, o, rfl, Nat.lt_of_lt_of_le hl hb.size, fun j v hj => (World.cell?_of_block (a := ⟨b, o + j, none⟩) (hb.block b hl)).trans (hc j v hj)⟩
theorem open_ints0 {H : Type} {enc : TypeId × Value → H} {W : World} {A : Option Addr} {l c : Nat} {d : DataW H} {p : List MemPlace} (h : DataW.Trod enc Try.prog W 0 (fun _ => true) true 41 (.slice A l c) d p) :
    ∃ ss : List Int, ss.length = l ∧ Nums W A ss := by
  obtain ⟨fuel, hf⟩ := h
  rcases open_slice Try.underlying41 hf with ⟨hcs, hx⟩ | ⟨a, len, cap, m, n, D, Pl, hcs, _, hl, hm, hmm, hx, hi⟩
  · simp [Value.cells] at hcs
    obtain ⟨rfl, rfl, rfl⟩ := hcs
    exact ⟨[], rfl, fun h => absurd h (Nat.not_lt_zero _)⟩
  · simp [Value.cells] at hcs
    obtain ⟨rfl, rfl, rfl⟩ := hcs
    simp only [Prod.mk.injEq] at hx
    obtain ⟨rfl, _⟩ := hx
    simp only [if_true] at hmm
    rw [Try.cells3] at hi
    obtain ⟨ss, hsl, hss⟩ := list_of (R := fun i (s : Int) => W.cell? (a.add (i * 1)) = some (.int .i64 s)) l fun i hil => by
      obtain ⟨cs', hc, ht⟩ := hi i (by omega)
      obtain ⟨_, hcl, hat⟩ := World.cells?_some hc
      obtain ⟨s4, q4, _, _⟩ := DataW.trod_int Try.underlying3 ht
      have h0 := hat 0 (by omega)
      rw [q4] at h0
      exact ⟨s4, by simpa [Addr.add] using h0⟩
    refine ⟨ss, hsl, fun hn => ?_⟩
    obtain ⟨b, off, spot⟩ := a
    have hspot : spot = none := by
      have := hss 0 ss[0] (List.getElem?_eq_getElem hn)
      simpa [Addr.add] using World.cell?_spot this
    subst hspot
    have hcell : ∀ (i : Nat) (s : Int), ss[i]? = some s → W.cell? ⟨b, off + i, none⟩ = some (.int .i64 s) := fun i s hs => by
      have := hss i s hs
      rw [Nat.mul_one, add_plain] at this
      exact this
    exact ⟨b, off, rfl, World.block_lt_of_cell? W _ (hcell 0 ss[0] (List.getElem?_eq_getElem hn)), hcell⟩
/-- Units at p, and a list of one's own beside it. -/
structure OrdAt (w0 w : World) (p : Nat) (f : PF) (v : Value) (zs : List Int) : Prop where
  un : ∃ F, Un w F p f ∧ (∀ k, F k → w0.heap.size ≤ k) ∧ ∀ k, F k → blkOf v ≠ some k
  ro : Ro w w0.heap.size v zs
  below : Below w0.heap.size w0 w
theorem OU.ord {w0 w : World} {p : Nat} {f : PF} (h : OU w0 w p f) : OrdAt w0 w p f (.slice none 0 0) [] := by
  obtain ⟨⟨F, h1, h2⟩, h3⟩ := h
  exact ⟨⟨F, h1, h2, fun k _ hh => by cases hh⟩, Ro.nil _ _, h3⟩
theorem OrdAt.ou {w0 w : World} {p : Nat} {f : PF} {v : Value} {zs : List Int} (h : OrdAt w0 w p f v zs) : OU w0 w p f := by
  obtain ⟨⟨F, h1, h2, _⟩, _, h3⟩ := h
  exact ⟨⟨F, h1, h2⟩, h3⟩
theorem OrdAt.out {w0 w w' : World} {p : Nat} {f' : PF} {v : Value} {zs : List Int} {F : Nat → Prop} (hl : ∀ k, F k → w0.heap.size ≤ k) (hd : ∀ k, F k → blkOf v ≠ some k) (hr : Ro w w0.heap.size v zs) (hb : Below w0.heap.size w0 w) (ho : UnOut F w p f' w') : OrdAt w0 w' p f' v zs := by
  obtain ⟨h1, F', h2, h3⟩ := ho
  refine ⟨⟨F', h2, fun k hk => (h3 k hk).elim (hl k) (fun h => Nat.le_trans hb.size h), fun k hk hv => ?_⟩, hr.keep fun g hg => h1.block g (hr.lt g hg).2 (fun hF => hd g hF hg), hb.trans (h1.toBelow hb.size hl)⟩
  rcases h3 k hk with h | h
  · exact hd k h hv
  · have := (hr.lt k hv).2
    omega
theorem OrdAt.more {w0 w w' : World} {p : Nat} {f : PF} {v : Value} {zs : List Int} (h : OrdAt w0 w p f v zs) (hb : Below w.heap.size w w') : OrdAt w0 w' p f v zs := by
  obtain ⟨⟨F, h1, h2, h3⟩, h4, h5⟩ := h
  exact OrdAt.out h2 h3 h4 h5 (h1.out hb)
theorem ord_add {w0 w : World} {p : Nat} {f : PF} {v : Value} {zs : List Int} (h : OrdAt w0 w p f v zs) (l : Int) (hst : ByteArray) (x : Int) (hk : IsKv (kv l hst)) (hs : hst.size ≤ maxLen) :
    Calls Try.prog 8 #[.pointer (some ⟨p, 0, none⟩), .int .i64 l, .string hst, .int .i64 x] w fun e w' => e = .returned (.bool (addB f l hst x)) ∧ OrdAt w0 w' p (addF f l hst x) v zs := by
  obtain ⟨⟨F, h1, h2, h3⟩, h4, h5⟩ := h
  exact (add_any w h1 l hst x hk hs).mono fun e w' ⟨k1, k2⟩ => ⟨k1, OrdAt.out h2 h3 h4 h5 k2⟩
theorem ord_take {w0 w : World} {p : Nat} {f : PF} {v : Value} {zs : List Int} (h : OrdAt w0 w p f v zs) (l : Int) (hst : ByteArray) (hk : IsKv (kv l hst)) :
    Calls Try.prog 10 #[.pointer (some ⟨p, 0, none⟩), .int .i64 l, .string hst] w fun e w' => e = .returned (.tuple #[.int .i64 ((f l hst).headD 0), .bool (decide (f l hst ≠ []))]) ∧ OrdAt w0 w' p (takeF f l hst) v zs := by
  obtain ⟨⟨F, h1, h2, h3⟩, h4, h5⟩ := h
  exact (take_any w h1 l hst hk).mono fun e w' ⟨k1, k2⟩ => ⟨k1, OrdAt.out h2 h3 h4 h5 k2⟩
theorem OrdAt.push {w0 w : World} {p : Nat} {f : PF} {A : Option Addr} {n c : Nat} {zs : List Int} (h : OrdAt w0 w p f (.slice A n c) zs) (hn : zs.length ≤ 1000) {s : Nat} {x : Int} (hs : w.cell? ⟨s, 0, none⟩ = some (.int .i64 x)) (ty : TypeId) :
    ∃ A' c' w', (Builtin.append_ #[41, 41] ty #[.slice A n c, .slice (some ⟨s, 0, none⟩) 1 1]).run Try.prog w = .ok (.slice A' (n + 1) c') w' ∧ OrdAt w0 w' p f (.slice A' (n + 1) c') (zs ++ [x]) := by
  obtain ⟨⟨F, h1, h2, h3⟩, h4, h5⟩ := h
  obtain ⟨A', c', w', hr, k1, k2, k3⟩ := h4.push hn hs h5.size ty
  refine ⟨A', c', w', hr, ⟨F, h1.keep k2 h3, h2, fun k hk hv => ?_⟩, k1, h5.trans (k2.toBelow h5.size fun k hk => (h4.lt k hk).1)⟩
  rcases k3 with e | e
  · exact h3 k hk (e.symm.trans hv)
  · rw [e] at hv
    have := h1.lt k hk
    have := Option.some.inj hv
    omega
theorem OrdAt.cut {w0 w : World} {p : Nat} {f : PF} {g o n c : Nat} {zs : List Int} (h : OrdAt w0 w p f (.slice (some ⟨g, o, none⟩) n c) zs) (hn : 2 ≤ zs.length) : OrdAt w0 w p f (.slice (some ⟨g, o + 1, none⟩) (n - 1) (c - 1)) (zs.drop 1) ∧ 1 < c ∧ n ≤ c ∧ n = zs.length := by
  obtain ⟨h1, h2⟩ := h.ro.cut hn
  obtain ⟨⟨F, k1, k2, k3⟩, k4, k5⟩ := h
  exact ⟨⟨⟨F, k1, k2, k3⟩, h1, k5⟩, h2⟩
/-- Just zs, at one place. -/
def only1 (l : Int) (h : ByteArray) (zs : List Int) : PF := upd noF l h zs
theorem only1_nil (l : Int) (h : ByteArray) : only1 l h [] = noF := upd_noop rfl
theorem only1_at (l : Int) (h : ByteArray) (zs : List Int) : only1 l h zs l h = zs := upd_same _ _ _ _
theorem upd_upd (f : PF) (l : Int) (h : ByteArray) (a b : List Int) : upd (upd f l h a) l h b = upd f l h b := by
  funext l' h'
  unfold upd
  split <;> rfl
theorem only1_take (l : Int) (h : ByteArray) (zs : List Int) : takeF (only1 l h zs) l h = only1 l h (zs.drop 1) := by
  unfold takeF
  rw [only1_at]
  exact upd_upd _ _ _ _ _
theorem only1_addB {l : Int} {h : ByteArray} {zs : List Int} {x : Int} (hl : 0 ≤ l ∧ l < 8) (hh : nameB h = true) (hx : 1 ≤ x ∧ x ≤ 4) : addB (only1 l h zs) l h x = decide (zs.getLast? ≠ some x) := by
  unfold addB
  rw [only1_at, hh]
  simp [hl, hx]
theorem only1_addF {l : Int} {h : ByteArray} {zs : List Int} {x : Int} : addF (only1 l h zs) l h x = only1 l h (if addB (only1 l h zs) l h x = true then push8 zs x else zs) := by
  unfold addF
  split
  · rw [only1_at]
    exact upd_upd _ _ _ _ _
  · rfl
end Go.Proofs.Ytacogfllnhopoaa
