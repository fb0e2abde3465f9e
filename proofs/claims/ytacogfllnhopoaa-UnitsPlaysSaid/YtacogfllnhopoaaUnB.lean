/- What is pending, in memory; how much is; what is kept. -/
import Derived.Test.YtacogfllnhopoaaUnA
import Derived.Test.YtacogfllnhopoaaShelf
import Derived.Test.YtacogfllnhopoaaNamesName
import Derived.WalkKit
import Derived.WalkSpells
import Derived.WalkLawsBesides
import Derived.IntWalk
import Derived.Deep.QuietTactic
import Derived.BigQuiet
import Derived.Deep.Cut
import Derived.RegionTactic
import Derived.BigRegion
import Derived.Lib.Hide
namespace Go.Proofs.Ytacogfllnhopoaa
open Go.RowKit Go.Maps
open Go.ChangeMaps (setBlock heap_setBlock_same heap_setBlock_other)
/-- Block g is a row of numbers: its first ones are zs, it has room for c. -/
def Ints (w : World) (g c : Nat) (zs : List Int) : Prop :=
  ∃ cur : Array Value, Blk w g 3 cur ∧ cur.size = c ∧ zs.length ≤ c ∧ c ≤ maxLen ∧ cur.toList.take zs.length = zs.map (.int .i64)
theorem Ints.lt {w : World} {g c : Nat} {zs : List Int} (h : Ints w g c zs) : g < w.heap.size := by
  obtain ⟨cur, hb, _⟩ := h
  exact hb.lt
theorem Ints.keep {w w' : World} {g c : Nat} {zs : List Int} (h : Ints w g c zs) (hk : w'.heap[g]? = w.heap[g]?) : Ints w' g c zs := by
  obtain ⟨cur, hb, hr⟩ := h
  exact ⟨cur, hk.trans hb, hr⟩
theorem Ints.cell {w : World} {g c : Nat} {zs : List Int} (h : Ints w g c zs) {i : Nat} {x : Int} (hi : zs[i]? = some x) : w.cell? ⟨g, i, none⟩ = some (.int .i64 x) := by
  obtain ⟨cur, hb, _, _, _, ht⟩ := h
  rw [hb.cell]
  have hl : i < zs.length := (List.getElem?_eq_some_iff.1 hi).1
  have := congrArg (fun l => l[i]?) ht
  simp only [List.getElem?_take, hl, if_true, List.getElem?_map, hi] at this
  simpa using this
theorem Ints.own {w : World} {g c : Nat} {zs : List Int} (h : Ints w g c zs) {base : Nat} (hb : base ≤ g) : w.ownsRow base 3 1 (.slice (some ⟨g, 0, none⟩) zs.length c) zs.length (zs.map (.int .i64)) := by
  obtain ⟨cur, hbk, hs, hl, hm, ht⟩ := h
  exact ⟨by simp, .inr ⟨g, c, cur, rfl, hb, hbk, hl, hm, by omega, by simpa using ht⟩⟩
theorem Ints.of_own {w : World} {base n : Nat} {v : Value} {zs : List Int} (h : w.ownsRow base 3 1 v n (zs.map (.int .i64))) (hn : 0 < n) :
    ∃ g c, v = .slice (some ⟨g, 0, none⟩) n c ∧ base ≤ g ∧ zs.length = n ∧ Ints w g c zs := by
  have hl : zs.length = n := by simpa using h.1
  rcases h.2 with ⟨_, h0⟩ | ⟨g, cap, cur, rfl, hb, hg, hnc, hm, hs, ht⟩
  · omega
  · exact ⟨g, cap, rfl, hb, hl, cur, hg, by simpa using hs, by omega, hm, by simpa [hl] using ht⟩
/-- What is pending for whom. -/
abbrev PF := Int → ByteArray → List Int
/-- An entry: what is pending for a host at a unit, in a row of one's own. -/
def Ent (w : World) (F : Nat → Prop) (f : PF) (e : MapEntry) : Prop :=
  ∃ l h g c, e.key = kv l h ∧ e.val = .slice (some ⟨g, 0, none⟩) (f l h).length c ∧ f l h ≠ [] ∧ F g ∧ Ints w g c (f l h)
/-- The map at block b keeps f. -/
def Pd (w : World) (F : Nat → Prop) (b : Nat) (f : PF) : Prop :=
  ∃ es clock, Mp w b es clock ∧ (∀ e ∈ es.toList, Ent w F f e) ∧ (∀ l h, f l h ≠ [] → ∃ e ∈ es.toList, e.key = kv l h) ∧
    ∀ e ∈ es.toList, ∀ e' ∈ es.toList, e.val.ownBlock = e'.val.ownBlock → e.key = e'.key
/-- What may be pending at all. -/
def Fine (f : PF) : Prop := ∀ l h, f l h ≠ [] → 0 ≤ l ∧ l < 8 ∧ nameB h = true ∧ (f l h).length ≤ 8
/-- The program's Units at block p, with the blocks F of its own. -/
def Un (w : World) (F : Nat → Prop) (p : Nat) (f : PF) : Prop :=
  ∃ b, Blk w p 49 #[.map (some b)] ∧ F p ∧ F b ∧ (∀ k, F k → k < w.heap.size) ∧ Pd w F b f ∧ Fine f
theorem Ent.keep {w w' : World} {F : Nat → Prop} {f : PF} {e : MapEntry} (h : Ent w F f e) (hk : ∀ k, F k → w'.heap[k]? = w.heap[k]?) : Ent w' F f e := by
  obtain ⟨l, hh, g, c, h1, h2, h3, h4, h5⟩ := h
  exact ⟨l, hh, g, c, h1, h2, h3, h4, h5.keep (hk g h4)⟩
theorem Pd.keep {w w' : World} {F : Nat → Prop} {b : Nat} {f : PF} (h : Pd w F b f) (hb : F b) (hk : ∀ k, F k → w'.heap[k]? = w.heap[k]?) : Pd w' F b f := by
  obtain ⟨es, clock, hm, he, hc, ha⟩ := h
  exact ⟨es, clock, hm.keep (hk b hb), fun e h => (he e h).keep hk, hc, ha⟩
theorem Un.keep {w w' : World} {F S : Nat → Prop} {p : Nat} {f : PF} (h : Un w F p f) (ho : Only S w w') (hd : ∀ k, F k → ¬ S k) : Un w' F p f := by
  obtain ⟨b, h1, h2, h3, h4, h5, h6⟩ := h
  exact ⟨b, h1.only ho (hd _ h2), h2, h3, fun k hk => Nat.lt_of_lt_of_le (h4 k hk) ho.size, h5.keep h3 (fun k hk => ho.block k (h4 k hk) (hd k hk)), h6⟩
theorem Un.fine {w : World} {F : Nat → Prop} {p : Nat} {f : PF} (h : Un w F p f) : Fine f := by
  obtain ⟨b, h1, h2, h3, h4, h5, h6⟩ := h
  exact h6
theorem Un.lt {w : World} {F : Nat → Prop} {p : Nat} {f : PF} (h : Un w F p f) : ∀ k, F k → k < w.heap.size := by
  obtain ⟨b, h1, h2, h3, h4, h5, h6⟩ := h
  exact h4
/-- What is found at a key. -/
theorem Pd.look {w : World} {F : Nat → Prop} {b : Nat} {f : PF} (h : Pd w F b f) {l : Int} {host : ByteArray} (hk : IsKv (kv l host)) :
    ∃ A c, (Instr.lookup 47 (.map (some b)) (.agg #[.int .i64 l, .string host]) false).run Try.prog w = .ok (.slice A (f l host).length c) w ∧
      ((f l host = [] ∧ A = none ∧ c = 0) ∨ ∃ g, A = some ⟨g, 0, none⟩ ∧ f l host ≠ [] ∧ F g ∧ Ints w g c (f l host)) := by
  obtain ⟨es, clock, hm, he, hc, ha⟩ := h
  rcases hm.look hk with ⟨hr, hn⟩ | ⟨e, hem, hek, hr⟩
  · have h0 : f l host = [] := Classical.byContradiction fun hne => by
      obtain ⟨e, h1, h2⟩ := hc l host hne
      exact hn e h1 h2
    exact ⟨none, 0, by rw [h0]; exact hr, .inl ⟨h0, rfl, rfl⟩⟩
  · obtain ⟨l', h', g, c, k1, k2, k3, k4, k5⟩ := he e hem
    obtain ⟨rfl, rfl⟩ := kv_inj (k1.symm.trans hek)
    exact ⟨some ⟨g, 0, none⟩, c, by rw [← k2]; exact hr, .inr ⟨g, rfl, k3, k4, k5⟩⟩
theorem wait_nil (w : World) (l : Int) (host : ByteArray) : Calls Try.prog 14 #[.pointer none, .int .i64 l, .string host] w fun e w' => e = .returned (.int .i64 0) ∧ w = w' := by
  go_enter Try.func14, Try.ntmps14
  go_wp2
  go_ret
  exact ⟨rfl, rfl⟩
theorem wait_any (w : World) {F : Nat → Prop} {p : Nat} {f : PF} (h : Un w F p f) {l : Int} {host : ByteArray} (hk : IsKv (kv l host)) :
    Calls Try.prog 14 #[.pointer (some ⟨p, 0, none⟩), .int .i64 l, .string host] w fun e w' => e = .returned (.int .i64 (f l host).length) ∧ w = w' := by
  obtain ⟨b, h1, h2, h3, h4, h5, h6⟩ := h
  obtain ⟨A, c, hr, _⟩ := h5.look hk
  have hc : w.cell? ⟨p, 0, none⟩ = some (.map (some b)) := h1.cell 0
  clear h1 h2 h3 h4 h5 h6
  go_enter Try.func14, Try.ntmps14
  go_wp2
  go_ret
  exact ⟨rfl, rfl⟩
theorem sclone_any (s : ByteArray) (w : World) (hlim : s.size ≤ 281474976710656) : Calls Try.prog 28 #[.string s] w fun e w' => e = .returned (.string s) ∧ Below w.heap.size w w' := by
  go_enter Try.func28, Try.ntmps28
  go_wp2_with (go_at_call 33; refine (Try.stringslite_Clone s _ hlim).mono ?_; rintro e w1 ⟨rfl, hb⟩)
  go_ret
  exact ⟨rfl, hb⟩
theorem isLun_any (w : World) (n : Int) : Calls Try.prog 22 #[.int .i64 n] w fun e w' => e = .returned (.bool (decide (0 ≤ n) && decide (n < 8))) ∧ w = w' := by
  by_cases h : 0 ≤ n
  · go_enter Try.func22, Try.ntmps22
    go_wp2
    go_ret
    simp [h]
  · go_enter Try.func22, Try.ntmps22
    go_wp2
    go_ret
    simp
    omega
theorem isWhy_any (w : World) (n : Int) : Calls Try.prog 24 #[.int .i64 n] w fun e w' => e = .returned (.bool (decide (1 ≤ n) && decide (n ≤ 4))) ∧ w = w' := by
  by_cases h : 1 ≤ n
  · go_enter Try.func24, Try.ntmps24
    go_wp2
    go_ret
    simp [h]
  · go_enter Try.func24, Try.ntmps24
    go_wp2
    go_ret
    simp
    omega
end Go.Proofs.Ytacogfllnhopoaa
