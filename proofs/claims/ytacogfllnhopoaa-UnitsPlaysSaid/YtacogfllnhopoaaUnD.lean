/- What is pending, changed at one place. -/
import Derived.Test.YtacogfllnhopoaaUnC
namespace Go.Proofs.Ytacogfllnhopoaa
open Go.RowKit Go.Maps
/-- f, but zs at one place. -/
def upd (f : PF) (l : Int) (h : ByteArray) (zs : List Int) : PF := fun l' h' => if l' = l ∧ h' = h then zs else f l' h'
theorem upd_same (f : PF) (l : Int) (h : ByteArray) (zs : List Int) : upd f l h zs l h = zs := if_pos ⟨rfl, rfl⟩
theorem upd_other {f : PF} {l l' : Int} {h h' : ByteArray} {zs : List Int} (hne : ¬ (l' = l ∧ h' = h)) : upd f l h zs l' h' = f l' h' := if_neg hne
theorem upd_noop {f : PF} {l : Int} {h : ByteArray} {zs : List Int} (hz : f l h = zs) : upd f l h zs = f := by
  funext l' h'
  unfold upd
  split
  · rename_i hh
    obtain ⟨rfl, rfl⟩ := hh
    exact hz.symm
  · rfl
theorem row_not_map {w : World} {g c b : Nat} {zs : List Int} {es : Array MapEntry} {clock : Nat} (h : Ints w g c zs) (hm : Mp w b es clock) : g ≠ b := by
  rintro rfl
  obtain ⟨cur, hb, _⟩ := h
  have := hm.here
  unfold Blk at hb
  rw [hb] at this
  cases this
theorem Ent.other {w w2 : World} {F F' S : Nat → Prop} {b : Nat} {f : PF} {l : Int} {h : ByteArray} {zs : List Int} {es : Array MapEntry} {clock : Nat} {e : MapEntry} (he : Ent w F f e) (hm : Mp w b es clock) (hin : e ∈ es.toList)
    (ha : ∀ e ∈ es.toList, ∀ e' ∈ es.toList, e.val.ownBlock = e'.val.ownBlock → e.key = e'.key) (hk : e.key ≠ kv l h)
    (ho : Only S w w2) (hS : ∀ k, S k → k = b ∨ ∃ e ∈ es.toList, e.key = kv l h ∧ e.val.ownBlock = some k) (hF : ∀ k, F k → F' k) : Ent w2 F' (upd f l h zs) e := by
  obtain ⟨l', h', g, c, h1, h2, h3, h4, h5⟩ := he
  have hne : ¬ (l' = l ∧ h' = h) := fun ⟨e1, e2⟩ => hk (by rw [h1, e1, e2])
  have hu := upd_other (zs := zs) (f := f) hne
  have hns : ¬ S g := by
    intro hs
    rcases hS g hs with hb | ⟨e', he', hk', ho'⟩
    · exact row_not_map h5 hm hb
    · exact hk ((ha e hin e' he' (by rw [h2, ho']; rfl)).trans hk')
  exact ⟨l', h', g, c, h1, by rw [hu]; exact h2, by rw [hu]; exact h3, hF g h4, by rw [hu]; exact h5.keep (ho.block g h5.lt hns)⟩
theorem Pd.stored {w w2 : World} {F S : Nat → Prop} {b : Nat} {f : PF} {l : Int} {h : ByteArray} {es es' : Array MapEntry} {clock clock' : Nat} (hm : Mp w b es clock) (he : ∀ e ∈ es.toList, Ent w F f e)
    (hc : ∀ l h, f l h ≠ [] → ∃ e ∈ es.toList, e.key = kv l h) (ha : ∀ e ∈ es.toList, ∀ e' ∈ es.toList, e.val.ownBlock = e'.val.ownBlock → e.key = e'.key)
    (ho : Only S w w2) (hS : ∀ k, S k → k = b ∨ ∃ e ∈ es.toList, e.key = kv l h ∧ e.val.ownBlock = some k) (hm2 : Mp w2 b es' clock') {g c : Nat} {zs : List Int} {n : Nat} (hn : n = zs.length)
    (e1 : ∀ e ∈ es'.toList, (e ∈ es.toList ∧ e.key ≠ kv l h) ∨ (e.key = kv l h ∧ e.val = .slice (some ⟨g, 0, none⟩) n c)) (e2 : ∀ e ∈ es.toList, e.key ≠ kv l h → e ∈ es'.toList) (e3 : ∃ e ∈ es'.toList, e.key = kv l h ∧ e.val = .slice (some ⟨g, 0, none⟩) n c)
    (hi : Ints w2 g c zs) (hg : (∃ e ∈ es.toList, e.key = kv l h ∧ e.val.ownBlock = some g) ∨ w.heap.size ≤ g) (hne : zs ≠ []) : Pd w2 (fun k => F k ∨ k = g) b (upd f l h zs) := by
  subst hn
  have apart : ∀ e ∈ es.toList, e.key ≠ kv l h → e.val.ownBlock ≠ some g := fun e hin hk hb => by
    rcases hg with ⟨e', he', hk', ho'⟩ | hg
    · exact hk ((ha e hin e' he' (hb.trans ho'.symm)).trans hk')
    · obtain ⟨l', h', g', c', h1, h2, h3, h4, h5⟩ := he e hin
      rw [h2] at hb
      have : g' = g := by simpa [Value.ownBlock] using hb
      have := h5.lt
      omega
  refine ⟨es', clock', hm2, fun e hin => ?_, fun l' h' hn' => ?_, fun e hin e' hin' heq => ?_⟩
  · rcases e1 e hin with ⟨hin0, hk⟩ | ⟨hk, hv⟩
    · exact (he e hin0).other hm hin0 ha hk ho hS (fun k hk => .inl hk)
    · exact ⟨l, h, g, c, hk, by rw [upd_same]; exact hv, by rw [upd_same]; exact hne, .inr rfl, by rw [upd_same]; exact hi⟩
  · by_cases hh : l' = l ∧ h' = h
    · obtain ⟨rfl, rfl⟩ := hh
      obtain ⟨e, h1, h2, _⟩ := e3
      exact ⟨e, h1, h2⟩
    · rw [upd_other hh] at hn'
      obtain ⟨e, h1, h2⟩ := hc l' h' hn'
      exact ⟨e, e2 e h1 (fun h3 => hh (kv_inj (h2.symm.trans h3))), h2⟩
  · rcases e1 e hin with ⟨hin0, hk⟩ | ⟨hk, hv⟩ <;> rcases e1 e' hin' with ⟨hin0', hk'⟩ | ⟨hk', hv'⟩
    · exact ha e hin0 e' hin0' heq
    · exact absurd (by rw [heq, hv']; rfl) (apart e hin0 hk)
    · exact absurd (by rw [← heq, hv]; rfl) (apart e' hin0' hk')
    · exact hk.trans hk'.symm
theorem Pd.dropped {w w2 : World} {F S : Nat → Prop} {b : Nat} {f : PF} {l : Int} {h : ByteArray} {es es' : Array MapEntry} {clock clock' : Nat} (hm : Mp w b es clock) (he : ∀ e ∈ es.toList, Ent w F f e)
    (hc : ∀ l h, f l h ≠ [] → ∃ e ∈ es.toList, e.key = kv l h) (ha : ∀ e ∈ es.toList, ∀ e' ∈ es.toList, e.val.ownBlock = e'.val.ownBlock → e.key = e'.key)
    (ho : Only S w w2) (hS : ∀ k, S k → k = b ∨ ∃ e ∈ es.toList, e.key = kv l h ∧ e.val.ownBlock = some k) (hm2 : Mp w2 b es' clock')
    (hiff : ∀ e, e ∈ es'.toList ↔ (e ∈ es.toList ∧ e.key ≠ kv l h)) : Pd w2 F b (upd f l h []) := by
  refine ⟨es', clock', hm2, fun e hin => ?_, fun l' h' hn' => ?_, fun e hin e' hin' heq => ha e ((hiff e).1 hin).1 e' ((hiff e').1 hin').1 heq⟩
  · obtain ⟨hin0, hk⟩ := (hiff e).1 hin
    exact (he e hin0).other hm hin0 ha hk ho hS (fun k hk => hk)
  · by_cases hh : l' = l ∧ h' = h
    · obtain ⟨rfl, rfl⟩ := hh
      exact absurd (upd_same _ _ _ _) hn'
    · rw [upd_other hh] at hn'
      obtain ⟨e, h1, h2⟩ := hc l' h' hn'
      exact ⟨e, (hiff e).2 ⟨h1, fun h3 => hh (kv_inj (h2.symm.trans h3))⟩, h2⟩
/-- What a method leaves: Units with f, and nothing else turned. -/
def UnOut (F : Nat → Prop) (w : World) (p : Nat) (f : PF) (w' : World) : Prop := Only F w w' ∧ ∃ F', Un w' F' p f ∧ ∀ k, F' k → F k ∨ w.heap.size ≤ k
theorem Un.out {w : World} {F : Nat → Prop} {p : Nat} {f : PF} (h : Un w F p f) {w' : World} (hb : Below w.heap.size w w') : UnOut F w p f w' :=
  ⟨Only.of_below hb, F, h.keep (S := nobody) (Only.of_below hb) (fun _ _ h => h), fun _ h => .inl h⟩
/-- The last eight of those and one more. -/
def push8 (zs : List Int) (x : Int) : List Int := (if zs.length = 8 then zs.drop 1 else zs) ++ [x]
theorem push8_ne (zs : List Int) (x : Int) : push8 zs x ≠ [] := by unfold push8; simp
theorem push8_le {zs : List Int} (h : zs.length ≤ 8) (x : Int) : (push8 zs x).length ≤ 8 := by
  unfold push8
  split <;> simp <;> omega
/-- Whether why comes to be pending. -/
def addB (f : PF) (l : Int) (h : ByteArray) (x : Int) : Bool := (decide (0 ≤ l) && decide (l < 8)) && nameB h && (decide (1 ≤ x) && decide (x ≤ 4)) && decide ((f l h).getLast? ≠ some x)
def addF (f : PF) (l : Int) (h : ByteArray) (x : Int) : PF := if addB f l h x = true then upd f l h (push8 (f l h) x) else f
theorem Fine.upd {f : PF} (hf : Fine f) {l : Int} {h : ByteArray} {zs : List Int} (hz : zs ≠ [] → 0 ≤ l ∧ l < 8 ∧ nameB h = true ∧ zs.length ≤ 8) : Fine (upd f l h zs) := by
  intro l' h' hn
  by_cases hh : l' = l ∧ h' = h
  · obtain ⟨rfl, rfl⟩ := hh
    rw [upd_same] at hn ⊢
    exact hz hn
  · rw [upd_other hh] at hn ⊢
    exact hf l' h' hn
end Go.Proofs.Ytacogfllnhopoaa
