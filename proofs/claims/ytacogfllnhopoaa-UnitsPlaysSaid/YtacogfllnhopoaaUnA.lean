/- A map keyed by a unit and a host, entry by entry. -/
import Derived.Test.YtacogfllnhopoaaRows
import Derived.Test.YtacogfllnhopoaaDevMem
import Derived.Maps.Range
import Derived.DeepKeys4
import Derived.WalkArith
import Derived.KernelRfl
namespace Go.Proofs.Ytacogfllnhopoaa
open Go.RowKit Go.Maps
open Go.ChangeMaps (setBlock heap_setBlock_same heap_setBlock_other)
open Go.MapKept (stamped_push stamped_modify stamped_erase stamped_empty stamped_iff)
/-- A unit and a host as a key. -/
def kv (l : Int) (h : ByteArray) : Value := .agg #[.int .i64 l, .string h]
theorem kv_inj {l l' : Int} {h h' : ByteArray} (e : kv l h = kv l' h') : l = l' ∧ h = h' := by
  unfold kv at e
  simpa using e
theorem laidU : laidOutB Try.prog = true := by kernel_rfl
theorem kLaw : Keyed Try.prog 52 := Keyed.of_law (deep_law_laid laidU (m := 9) (by omega) (of_decide_eq_true (by kernel_rfl)) (by kernel_rfl) (by kernel_rfl))
/-- Which values are keys here. -/
def IsKv (v : Value) : Prop := ∃ l, keyOf Try.prog 52 v = some l
/-- What a pair of a number and a text reads as, as a key. -/
theorem keyOf_pair {P : Program} {k ti ts : TypeId} {f1 f2 : Field} (hu : P.underlying k = some (.struct #[f1, f2])) (h1 : P.keyType k = true) (hc : P.cellsOf k = 2) (hn1 : f1.name ≠ "_") (hn2 : f2.name ≠ "_")
    (ht1 : f1.type = ti) (ht2 : f2.type = ts) (ho1 : f1.offset = 0) (ho2 : f2.offset = 1) (hi : P.underlying ti = some (.int .i64)) (hs : P.underlying ts = some .string) (hci : P.cellsOf ti = 1) (hcs : P.cellsOf ts = 1) (hsz : 0 < P.types.size)
    {l : Int} {h : ByteArray} (hw : (Lit.int .i64 l).wf = true) (hh : h.size ≤ maxLen) : ∃ x, keyOf P k (kv l h) = some x := by
  obtain ⟨n, hn⟩ : ∃ n, P.types.size = n + 1 := ⟨P.types.size - 1, by omega⟩
  have h2 : (kv l h).formed P k = true := by
    simp [Value.formed, kv, hu, hc]
  subst ht1 ht2
  unfold keyOf
  simp only [hu, h1, h2]
  simp [Program.keyLits, hn, hu, hc, hn1, hn2, ho1, ho2, hci, hcs, kv, Value.cells, hi, hs, hw, hh]
theorem isKv {l : Int} {h : ByteArray} (hl : -9223372036854775808 ≤ l ∧ l ≤ 9223372036854775807) (hh : h.size ≤ maxLen) : IsKv (kv l h) :=
  keyOf_pair Try.underlying52 (by kernel_rfl) (by kernel_rfl) (by decide) (by decide) rfl rfl rfl rfl Try.underlying3 Try.underlying9 (by kernel_rfl) (by kernel_rfl) (of_decide_eq_true (by kernel_rfl)) (WalkArith.wf_i64 (by omega)) hh
/-- Block b is a map of these entries. -/
structure Mp (w : World) (b : Nat) (es : Array MapEntry) (clock : Nat) : Prop where
  here : w.heap[b]? = some (.map es clock)
  st : MapKept.Stamped es clock
  keys : ∀ e ∈ es.toList, IsKv e.key
theorem Mp.lt {w : World} {b : Nat} {es : Array MapEntry} {clock : Nat} (h : Mp w b es clock) : b < w.heap.size := (Array.getElem?_eq_some_iff.1 h.here).1
theorem Mp.keep {w w' : World} {b : Nat} {es : Array MapEntry} {clock : Nat} (h : Mp w b es clock) (hk : w'.heap[b]? = w.heap[b]?) : Mp w' b es clock := ⟨hk.trans h.here, h.st, h.keys⟩
theorem Mp.new (w : World) : Mp (w.alloc (.map #[] 0)) w.heap.size #[] 0 := ⟨(MapKept.heap_alloc w _).1, stamped_empty 0, by simp⟩
theorem Mp.born {w : World} {b : Nat} {es : Array MapEntry} {clock : Nat} (h : Mp w b es clock) : ∀ x ∈ es.toList, x.born < clock := ((stamped_iff es clock).1 h.st).1
theorem Mp.nodup {w : World} {b : Nat} {es : Array MapEntry} {clock : Nat} (h : Mp w b es clock) : (es.toList.map (·.born)).Nodup := ((stamped_iff es clock).1 h.st).2.1
theorem Mp.apart {w : World} {b : Nat} {es : Array MapEntry} {clock : Nat} (h : Mp w b es clock) : es.toList.Pairwise (fun x y => x.key ≠ y.key) := ((stamped_iff es clock).1 h.st).2.2
theorem Mp.one {w : World} {b : Nat} {es : Array MapEntry} {clock : Nat} (h : Mp w b es clock) {x y : MapEntry} (hx : x ∈ es.toList) (hy : y ∈ es.toList) (e : x.key = y.key) : x = y := entry_eq_of_key h.apart hx hy e
theorem Mp.other {w : World} {b : Nat} {es : Array MapEntry} {clock : Nat} (h : Mp w b es clock) {j i : Nat} {e0 x : MapEntry} (h2 : es.toList[j]? = some e0) (hi : es.toList[i]? = some x) (hne : i ≠ j) : x.key ≠ e0.key := by
  have hn := h.apart
  obtain ⟨hj, ej⟩ := List.getElem?_eq_some_iff.1 h2
  obtain ⟨hi', ei⟩ := List.getElem?_eq_some_iff.1 hi
  rw [← ej, ← ei]
  rcases Nat.lt_or_gt_of_ne hne with h | h
  · exact List.pairwise_iff_getElem.1 hn i j hi' hj h
  · exact fun e1 => List.pairwise_iff_getElem.1 hn j i hj hi' h e1.symm
/-- 'm[k]'. -/
theorem Mp.look {w : World} {b : Nat} {es : Array MapEntry} {clock : Nat} (h : Mp w b es clock) {k : Value} (hk : IsKv k) :
    ((Instr.lookup 47 (.map (some b)) k false).run Try.prog w = .ok (.slice none 0 0) w ∧ ∀ e ∈ es.toList, e.key ≠ k) ∨
    ∃ e ∈ es.toList, e.key = k ∧ (Instr.lookup 47 (.map (some b)) k false).run Try.prog w = .ok e.val w := by
  obtain ⟨lk, hlk⟩ := hk
  have hz : (zeroValue 41).run Try.prog w = .ok (.slice none 0 0) w := by kernel_rfl
  rcases kLaw.find w hlk es.toList h.keys with ⟨h1, h2⟩ | ⟨j, e0, h1, h2, h3⟩
  · exact .inl ⟨by simp [Instr.lookup, run_underlying Try.underlying47, MapKept.run_getObj_map h.here, kLaw.check w _ hlk, h1, hz, Result.andThen], h2⟩
  · exact .inr ⟨e0, List.mem_of_getElem? h2, h3, by simp [Instr.lookup, run_underlying Try.underlying47, MapKept.run_getObj_map h.here, kLaw.check w _ hlk, h1, Result.andThen]⟩
/-- 'm[k] = v'. -/
theorem Mp.put {w : World} {b : Nat} {es : Array MapEntry} {clock : Nat} (h : Mp w b es clock) {k : Value} (hk : IsKv k) (v : Value) :
    ∃ es' clock', (Instr.mapUpdate 47 (.map (some b)) k v).run Try.prog w = .ok () (setBlock w b (.map es' clock')) ∧ Mp (setBlock w b (.map es' clock')) b es' clock' ∧
      (∀ e ∈ es'.toList, (e ∈ es.toList ∧ e.key ≠ k) ∨ (e.key = k ∧ e.val = v)) ∧ (∀ e ∈ es.toList, e.key ≠ k → e ∈ es'.toList) ∧ ∃ e ∈ es'.toList, e.key = k ∧ e.val = v := by
  obtain ⟨lk, hlk⟩ := hk
  rcases kLaw.find w hlk es.toList h.keys with ⟨h1, h2⟩ | ⟨j, e0, h1, h2, h3⟩
  · refine ⟨es.push ⟨k, v, clock⟩, clock + 1, ?_, ⟨heap_setBlock_same h.here _, stamped_push h.st h2, ?_⟩, ?_, ?_, ⟨⟨k, v, clock⟩, by simp, rfl, rfl⟩⟩
    · simp [Instr.mapUpdate, run_underlying Try.underlying47, MapKept.run_getObj_map h.here, kLaw.check w false hlk, h1, MapKept.run_setObj_map _ h.here, Result.andThen, setBlock]
    · intro e he
      simp only [Array.toList_push, List.mem_append, List.mem_singleton] at he
      rcases he with he | rfl
      · exact h.keys e he
      · exact ⟨lk, hlk⟩
    · intro e he
      simp only [Array.toList_push, List.mem_append, List.mem_singleton] at he
      rcases he with he | rfl
      · exact .inl ⟨he, h2 e he⟩
      · exact .inr ⟨rfl, rfl⟩
    · intro e he _
      simp [he]
  · have hj : es[j]? = some e0 := by simpa using h2
    have hjl : j < es.toList.length := (List.getElem?_eq_some_iff.1 h2).1
    have hlist : (es.modify j (fun e' => { e' with key := k, val := v })).toList = es.toList.set j { e0 with key := k, val := v } := by rw [Array.toList_modify, ChangeMaps.modify_eq_set _ _ _ _ h2]
    have who : ∀ x ∈ es.toList.set j { e0 with key := k, val := v }, x = { e0 with key := k, val := v } ∨ (x ∈ es.toList ∧ x.key ≠ k) := by
      intro x hx
      obtain ⟨i, hi, ex⟩ := List.getElem_of_mem hx
      rw [List.getElem_set] at ex
      split at ex
      · exact .inl ex.symm
      · rename_i hne
        have hi' : i < es.toList.length := by simpa using hi
        have hm : x ∈ es.toList := ex ▸ List.getElem_mem hi'
        exact .inr ⟨hm, by rw [← h3]; exact h.other h2 (by rw [List.getElem?_eq_getElem hi', ex]) (fun e1 => hne e1.symm)⟩
    refine ⟨es.modify j (fun e' => { e' with key := k, val := v }), clock, ?_, ⟨heap_setBlock_same h.here _, stamped_modify h.st _ _ (fun _ _ => rfl) (fun e' _ he' => by rw [hj] at he'; cases he'; exact h3.symm), ?_⟩, ?_, ?_, ⟨{ e0 with key := k, val := v }, ?_, rfl, rfl⟩⟩
    · simp [Instr.mapUpdate, run_underlying Try.underlying47, MapKept.run_getObj_map h.here, kLaw.check w false hlk, h1, hj, h3, kLaw.stays w hlk, MapKept.run_setObj_map _ h.here, Result.andThen, setBlock]
    · intro e he
      rw [hlist] at he
      rcases who e he with rfl | ⟨he', _⟩
      · exact ⟨lk, hlk⟩
      · exact h.keys e he'
    · intro e he
      rw [hlist] at he
      rcases who e he with rfl | h'
      · exact .inr ⟨rfl, rfl⟩
      · exact .inl h'
    · intro e he hne
      rw [hlist]
      obtain ⟨i, hi, ex⟩ := List.getElem_of_mem he
      have hij : j ≠ i := by
        rintro rfl
        have h2' : es.toList[j] = e0 := (List.getElem?_eq_some_iff.1 h2).2
        rw [ex] at h2'
        exact hne (h2' ▸ h3)
      refine List.mem_iff_getElem.2 ⟨i, by simpa using hi, ?_⟩
      rw [List.getElem_set_ne hij]
      exact ex
    · rw [hlist]
      exact List.mem_iff_getElem.2 ⟨j, by simpa using hjl, by simp⟩
/-- 'delete(m, k)'. -/
theorem Mp.drop {w : World} {b : Nat} {es : Array MapEntry} {clock : Nat} (h : Mp w b es clock) {k : Value} (hk : IsKv k) (ty : TypeId) :
    ∃ es', (Builtin.delete_ #[47, 52] ty #[.map (some b), k]).run Try.prog w = .ok (.tuple #[]) (setBlock w b (.map es' clock)) ∧ Mp (setBlock w b (.map es' clock)) b es' clock ∧
      ∀ e, e ∈ es'.toList ↔ (e ∈ es.toList ∧ e.key ≠ k) := by
  obtain ⟨lk, hlk⟩ := hk
  rcases kLaw.find w hlk es.toList h.keys with ⟨h1, h2⟩ | ⟨j, e0, h1, h2, h3⟩
  · refine ⟨es, ?_, ⟨heap_setBlock_same h.here _, h.st, h.keys⟩, fun x => ⟨fun hx => ⟨hx, h2 x hx⟩, fun hx => hx.1⟩⟩
    simp [Builtin.delete_, run_underlying Try.underlying47, MapKept.run_getObj_map h.here, kLaw.check w _ hlk, h1, MapKept.run_setObj_map _ h.here, Result.andThen, setBlock]
  · have hjl : j < es.toList.length := (List.getElem?_eq_some_iff.1 h2).1
    have hjs : j < es.size := by simpa using hjl
    have hsub : (es.eraseIdxIfInBounds j).toList = es.toList.eraseIdx j := by
      unfold Array.eraseIdxIfInBounds
      rw [dif_pos hjs]
      simp
    have hiff : ∀ e, e ∈ (es.eraseIdxIfInBounds j).toList ↔ (e ∈ es.toList ∧ e.key ≠ k) := by
      intro x
      rw [hsub, List.mem_eraseIdx_iff_getElem?]
      have h2' : es.toList[j] = e0 := (List.getElem?_eq_some_iff.1 h2).2
      constructor
      · rintro ⟨i, hne, hi⟩
        exact ⟨List.mem_of_getElem? hi, by rw [← h3]; exact h.other h2 hi hne⟩
      · rintro ⟨hx, hne⟩
        obtain ⟨i, hi⟩ := List.getElem?_of_mem hx
        refine ⟨i, fun e1 => hne ?_, hi⟩
        rw [e1, h2] at hi
        cases hi
        exact h3
    refine ⟨es.eraseIdxIfInBounds j, ?_, ⟨heap_setBlock_same h.here _, stamped_erase h.st j, fun e he => h.keys e ((hiff e).1 he).1⟩, hiff⟩
    simp [Builtin.delete_, run_underlying Try.underlying47, MapKept.run_getObj_map h.here, kLaw.check w _ hlk, h1, MapKept.run_setObj_map _ h.here, Result.andThen, setBlock]
end Go.Proofs.Ytacogfllnhopoaa
