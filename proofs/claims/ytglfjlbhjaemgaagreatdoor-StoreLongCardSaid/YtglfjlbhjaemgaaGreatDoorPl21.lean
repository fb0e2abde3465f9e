/- Rows of texts that begin anywhere in their block, what is appended to them; journals in memory. The area of a journal: where its slots and halves are, and the sector of a head. The sector of a head. Whether a journal can stand in an area. The small methods of a journal. The methods of a journal that only tell. -/
import Derived.Test.YtglfjlbhjaemgaaGreatDoorPl14
import Derived.Test.YtglfjlbhjaemgaaGreatDoorPl20
import Derived.WideKeyArr2
import Derived.Deep.RegionHeld3
import Derived.Deep.Cut
import Derived.Deep.RegionWith
namespace Go.Proofs.YtglfjlbhjaemgaaGreatDoor
open Go.RowKit
/-- The texts xs, a row of one's own, from any place of its block on. -/
def Recs (w : World) (v : Value) (xs : List ByteArray) : Prop :=
  (v = .slice none 0 0 ∧ xs = []) ∨ ∃ g o c cur, v = .slice (some ⟨g, o, none⟩) xs.length c ∧ Blk w g 9 cur ∧ o + c ≤ cur.size ∧ xs.length ≤ c ∧ c ≤ maxLen ∧ (cur.toList.drop o).take xs.length = xs.map .string
theorem Recs.form {w : World} {v : Value} {xs : List ByteArray} (h : Recs w v xs) : ∃ A c, v = .slice A xs.length c := by
  rcases h with ⟨rfl, rfl⟩ | ⟨g, o, c, cur, rfl, _⟩
  · exact ⟨_, _, rfl⟩
  · exact ⟨_, _, rfl⟩
theorem Recs.lt {w : World} {v : Value} {xs : List ByteArray} (h : Recs w v xs) : ∀ g, v.ownBlock = some g → g < w.heap.size := by
  intro g hg
  rcases h with ⟨rfl, rfl⟩ | ⟨g', o, c, cur, rfl, hb, _⟩
  · cases hg
  · injection hg with hg; subst hg; exact hb.lt
theorem Recs.keep {w w' : World} {v : Value} {xs : List ByteArray} (h : Recs w v xs) (hk : ∀ g, v.ownBlock = some g → w'.heap[g]? = w.heap[g]?) : Recs w' v xs := by
  rcases h with h | ⟨g, o, c, cur, rfl, hb, rest⟩
  · exact .inl h
  · exact .inr ⟨g, o, c, cur, rfl, (hk g rfl).trans hb, rest⟩
theorem Recs.cell {w : World} {A : Option Addr} {n c : Nat} {xs : List ByteArray} (h : Recs w (.slice A n c) xs) {j : Nat} {s : ByteArray} (hj : xs[j]? = some s) :
    ∃ g o, A = some ⟨g, o, none⟩ ∧ w.cell? ⟨g, o + j, none⟩ = some (.string s) := by
  have hl : j < xs.length := (List.getElem?_eq_some_iff.1 hj).1
  rcases h with ⟨_, rfl⟩ | ⟨g, o, c', cur, he, hb, hs, hn, hm, ht⟩
  · simp at hj
  · injection he with hA hn hc
    refine ⟨g, o, hA, ?_⟩
    rw [hb.cell]
    have := congrArg (fun l => l[j]?) ht
    simp only [List.getElem?_take, hl, if_true, List.getElem?_drop, List.getElem?_map, hj] at this
    simpa using this
theorem recs_nil (w : World) : Recs w (.slice none 0 0) [] := .inl ⟨rfl, rfl⟩
theorem recs_apart {w : World} {v : Value} {xs : List ByteArray} {t : TypeId} {p : Nat} {cs : Array Value} (h : Recs w v xs) (hb : Blk w p t cs) (ht : 9 ≠ t) : v.ownBlock ≠ some p := by
  rcases h with ⟨rfl, rfl⟩ | ⟨g, o, c, cur, rfl, hg, _⟩
  · simp [Value.ownBlock]
  · intro e
    injection e with e
    have e : g = p := e
    subst e
    exact hg.apart hb ht rfl
theorem run_append_room_mid {P : Program} (w : World) (t ty e : TypeId) (i : TypeInfo) (ht : P.underlying t = some (.slice e)) (hi : P.info? e = some i)
    (g o sLen sCap : Nat) (cur : Array Value) (hg : w.heap[g]? = some (.cells cur e (0, 0)))
    (a : Addr) (m c : Nat) (news : List Value) (hl : news.length = m * i.size) (hnews : ∀ j u, news[j]? = some u → w.cell? (a.add j) = some u) (h1 : ∀ u ∈ news, u.oneCell' = true)
    (hroom : sLen + m ≤ sCap) (hfit : o + sLen * i.size + news.length ≤ cur.size) :
    (Builtin.append_ #[t, t] ty #[.slice (some ⟨g, o, none⟩) sLen sCap, .slice (some a) m c]).run P w =
      .ok (.slice (some ⟨g, o, none⟩) (sLen + m) sCap) (w.setRow g (cur.toList.take (o + sLen * i.size) ++ news ++ cur.toList.drop (o + sLen * i.size + news.length)).toArray) := by
  have hf := run_firstCells_some (P := P) w i.size m a m c news hl hnews
  have hst := run_storeCells_at P g (o + sLen * i.size) e news 0 cur w hg (by simpa using hfit) h1
  simp only [Nat.add_zero] at hst
  simp [Builtin.append_, run_underlying ht, sizeOf, typeInfo, hi, Builtin.lenOf, hroom, hf, Addr.add_lit, hst]
set_option maxRecDepth 100000 in
/-- A text is appended. -/
theorem run_append_text (w : World) (ty : TypeId) (v : Value) (xs : List ByteArray) (h : Recs w v xs) (b : Nat) (s : ByteArray) (hb : w.cell? ⟨b, 0, none⟩ = some (.string s)) (hn : xs.length ≤ 1099511627776) :
    ∃ v' w', (Builtin.append_ #[101, 101] ty #[v, .slice (some ⟨b, 0, none⟩) 1 1]).run Tryz.prog w = .ok v' w' ∧ Recs w' v' (xs ++ [s]) ∧ w.grownBy w' (v.ownBlock) ∧ (v'.ownBlock = v.ownBlock ∨ v'.ownBlock = some w.heap.size) ∧ ∀ g, v'.ownBlock = some g → g < w'.heap.size := by
  obtain ⟨i0, hi0, hz0, hz1, hz2⟩ := info_parts info9
  have hu := Tryz.underlying101
  have hnews : ∀ j u, [Value.string s][j]? = some u → w.cell? ((⟨b, 0, none⟩ : Addr).add j) = some u := by
    intro j u hu
    cases j with
    | zero => simp at hu; subst hu; rw [Addr.add_lit]; exact hb
    | succ j => simp at hu
  have hl1 : [Value.string s].length = 1 * i0.size := by rw [hz1]; rfl
  have hone : ∀ u ∈ [Value.string s], u.oneCell' = true := fun u hu => by simp at hu; subst hu; rfl
  have fin : ∀ (v' : Value) (w' : World), Recs w' v' (xs ++ [s]) → ∀ g, v'.ownBlock = some g → g < w'.heap.size := fun v' w' h => h.lt
  have grown : ∀ old : Nat, Recs (w.drew.alloc (.cells ((xs.map Value.string).toArray ++ [Value.string s].toArray ++ Builtin.zeroCells (Value.string ⟨#[]⟩).cells (grownCap w (xs.length + 1) old 9 - (xs.length + 1))) 9)) (.slice (some ⟨w.heap.size, 0, none⟩) (xs.length + 1) (grownCap w (xs.length + 1) old 9)) (xs ++ [s]) := by
    intro old
    have hge := grownCap_ge w (xs.length + 1) old 9
    refine .inr ⟨w.heap.size, 0, grownCap w (xs.length + 1) old 9, _, by simp, Blk.new w.drew _ _, ?_, by simpa using hge, grownCap_le_maxLen w _ old 9 (by unfold maxLen; omega), ?_⟩
    · simp [size_zeroCells, Value.cells]
      omega
    · simp only [Array.toList_append, List.drop_zero, List.map_append, List.map_cons, List.map_nil]
      exact List.take_left' (by simp)
  rcases h with ⟨rfl, rfl⟩ | ⟨g, o, c, cur, rfl, hg, hs, hlc, hm, ht⟩
  · have hr := run_append_nil (P := Tryz.prog) w 101 ty 9 i0 _ hu hi0 hz0 ⟨b, 0, none⟩ 1 1 [.string s] hl1 hnews (by omega) (by omega) (by rw [hz2]; omega)
    have hgr := grown 0
    simp only [List.length_nil, Nat.zero_add, List.map_nil, List.nil_append, Array.empty_append] at hgr ⊢
    exact ⟨_, _, hr, hgr, ⟨rfl, rfl, rfl, by simp, fun k hk _ => Below.heap_alloc w.drew _ k hk⟩, .inr rfl, fin _ _ hgr⟩
  · by_cases hroom : xs.length + 1 ≤ c
    · have hr := run_append_room_mid (P := Tryz.prog) w 101 ty 9 i0 hu hi0 g o xs.length c cur hg ⟨b, 0, none⟩ 1 1 [.string s] hl1 hnews hone hroom (by rw [hz1, Nat.mul_one]; show o + xs.length + 1 ≤ cur.size; omega)
      rw [hz1, Nat.mul_one] at hr
      have hrec : Recs (w.setRow g (cur.toList.take (o + xs.length) ++ [Value.string s] ++ cur.toList.drop (o + xs.length + [Value.string s].length)).toArray) (.slice (some ⟨g, o, none⟩) (xs.length + 1) c) (xs ++ [s]) := by
        refine .inr ⟨g, o, c, _, by simp, setRow_heap w g cur _ 9 _ hg, ?_, by simpa using hroom, hm, ?_⟩
        · simp only [List.size_toArray, List.length_append, List.length_take, List.length_drop, Array.length_toList, List.length_cons, List.length_nil]
          omega
        · have hlt : (cur.toList.take (o + xs.length)).length = o + xs.length := by simp; omega
          have e2 : (cur.toList.take (o + xs.length)).drop o = xs.map .string := by rw [List.drop_take, Nat.add_sub_cancel_left, ht]
          rw [List.append_assoc, List.drop_append_of_le_length (by omega), e2, List.map_append, ← List.append_assoc]
          exact List.take_left' (by simp)
      exact ⟨_, _, hr, hrec, ⟨rfl, rfl, rfl, by simp, fun k _ hk => setRow_other w g k _ (fun e => hk (by simp [Value.ownBlock, e]))⟩, .inl rfl, fin _ _ hrec⟩
    · have holds : ∀ j u, (xs.map Value.string)[j]? = some u → w.cell? ((⟨g, o, none⟩ : Addr).add j) = some u := by
        intro j u hu
        rw [List.getElem?_map] at hu
        cases hx : xs[j]? with
        | none => rw [hx] at hu; cases hu
        | some s' =>
          rw [hx] at hu
          have hu := Option.some.inj hu
          subst hu
          obtain ⟨g', o', hA, hc⟩ := Recs.cell (A := some ⟨g, o, none⟩) (n := xs.length) (c := c) (.inr ⟨g, o, c, cur, rfl, hg, hs, hlc, hm, ht⟩) hx
          have hA := Option.some.inj hA
          have e1 : g = g' := congrArg Addr.block hA
          have e2 : o = o' := by cases hA; rfl
          subst e1; subst e2
          rw [Addr.add_lit]; exact hc
      have hr := run_append_grow (P := Tryz.prog) w 101 ty 9 i0 _ hu hi0 hz0 ⟨g, o, none⟩ xs.length c (xs.map .string) (by rw [hz1]; simp) holds ⟨b, 0, none⟩ 1 1 [.string s] hl1 hnews (by omega) (by omega) (growslice_fits (by omega) (by rw [hz2]; omega))
      have hgr := grown c
      exact ⟨_, _, hr, hgr, ⟨rfl, rfl, rfl, by simp, fun k hk _ => Below.heap_alloc w.drew _ k hk⟩, .inr rfl, fin _ _ hgr⟩
/-- What a journal is. -/
structure Jn where
  fr : Nat
  se : Nat
  num : Nat
  half : Nat
  used : Nat
  base : ByteArray
  recs : List ByteArray
  unfit : Bool
/-- The sectors of a half. -/
def hsz (se : Nat) : Nat := (se - 4) / 2
theorem hsz_is (se : Nat) : hsz se = (se - 4) / 2 := rfl
def Jn.size (j : Jn) : Nat := hsz j.se
structure Jn.Fits (j : Jn) (n : Nat) : Prop where
  se : 8 ≤ j.se
  fr : j.fr + j.se ≤ n
  half : j.half ≤ 1
  used : j.used ≤ j.size
  recs : j.recs.length ≤ j.used
def jCells (d : Nat) (j : Jn) (rv : Value) : Array Value :=
  #[.pointer (some ⟨d, 0, none⟩), .int .i64 (j.fr : Int), .int .i64 (j.se : Int), .int .u64 (j.num : Int), .int .i64 (j.half : Int), .int .i64 (j.used : Int), .string j.base, rv, .bool j.unfit]
/-- A journal at block q, over the device at block d. -/
def Jv (w : World) (G : Nat → Prop) (q d : Nat) (j : Jn) : Prop :=
  ∃ rv, Blk w q 216 (jCells d j rv) ∧ Recs w rv j.recs ∧ G q ∧ (∀ g, rv.ownBlock = some g → G g) ∧ (∀ k, G k → k < w.heap.size)
theorem Jv.keep {w w' : World} {G S : Nat → Prop} {q d : Nat} {j : Jn} (h : Jv w G q d j) (ho : Only S w w') (hd : ∀ k, G k → ¬ S k) : Jv w' G q d j := by
  obtain ⟨rv, hb, hr, hq, hg, hl⟩ := h
  exact ⟨rv, hb.only ho (hd _ hq), hr.keep (fun g hg' => ho.block g (hl _ (hg g hg')) (hd _ (hg g hg'))), hq, hg, fun k hk => Nat.lt_of_lt_of_le (hl k hk) ho.size⟩
/-- A device and a journal on it. -/
structure JD (w : World) (S : Nat → Prop) (p q n : Nat) (x : St) (j : Jn) : Prop where
  both : ∃ F G, Dv w F p n x ∧ Jv w G q p j ∧ (∀ k, F k → ¬ G k) ∧ (∀ k, F k → S k) ∧ (∀ k, G k → S k)
  lt : ∀ k, S k → k < w.heap.size
  tab : Tab w
  far : ¬ S gTab
def JOut (S : Nat → Prop) (w : World) (p q n : Nat) (x : St) (j : Jn) (w' : World) : Prop := ∃ S', JD w' S' p q n x j ∧ Only S w w' ∧ Grew S w S'
theorem tab_only {S : Nat → Prop} {w w' : World} (h : Tab w) (ho : Only S w w') (hs : ¬ S gTab) : Tab w' :=
  ⟨Nat.lt_of_lt_of_le h.pos ho.size, fun i hi => ho.cell (h.cell i hi) hs⟩
theorem Grew.refl (S : Nat → Prop) (w : World) : Grew S w S := fun _ h => .inl h
theorem Grew.trans {S T U : Nat → Prop} {w w' : World} (h : Grew S w T) (k : Grew T w' U) (hs : w.heap.size ≤ w'.heap.size) : Grew S w U := fun i hi =>
  (k i hi).elim (h i) fun h' => .inr (Nat.le_trans hs h')
theorem Only.go {S T : Nat → Prop} {a b c : World} (h : Only S a b) (hg : Grew S a T) (k : Only T b c) : Only S a c := h.trans k hg
theorem Grew.far {S T : Nat → Prop} {w : World} (h : Grew S w T) (ht : Tab w) (hs : ¬ S gTab) : ¬ T gTab := fun hk => (h _ hk).elim hs fun h' => absurd ht.pos (Nat.not_lt.2 h')
theorem JOut.trans {S T : Nat → Prop} {w w1 w2 : World} {p q n : Nat} {x : St} {j : Jn} (ho : Only S w w1) (hg : Grew S w T) (h : JOut T w1 p q n x j w2) : JOut S w p q n x j w2 := by
  obtain ⟨S', hj, ho2, hg2⟩ := h
  exact ⟨S', hj, ho.go hg ho2, hg.trans hg2 ho.size⟩
theorem JOut.refl {S : Nat → Prop} {w : World} {p q n : Nat} {x : St} {j : Jn} (h : JD w S p q n x j) : JOut S w p q n x j w := ⟨S, h, Only.refl S w, Grew.refl S w⟩
theorem JD.keep {w w' : World} {S T : Nat → Prop} {p q n : Nat} {x : St} {j : Jn} (h : JD w S p q n x j) (ho : Only T w w') (hd : ∀ k, S k → ¬ T k) (ht : ¬ T gTab) : JD w' S p q n x j := by
  obtain ⟨F, G, hF, hG, hd', hs, hs'⟩ := h.both
  exact ⟨⟨F, G, hF.keep ho fun k hk => hd k (hs k hk), hG.keep ho fun k hk => hd k (hs' k hk), hd', hs, hs'⟩, fun k hk => Nat.lt_of_lt_of_le (h.lt k hk) ho.size, tab_only h.tab ho ht, h.far⟩
theorem JD.below {w w' : World} {S : Nat → Prop} {p q n : Nat} {x : St} {j : Jn} (h : JD w S p q n x j) (hb : Below w.heap.size w w') : JD w' S p q n x j :=
  h.keep (T := nobody) (Only.of_below hb) (fun _ _ => id) id
theorem JOut.below {S : Nat → Prop} {w w1 : World} {p q n : Nat} {x : St} {j : Jn} (h : JD w S p q n x j) (hb : Below w.heap.size w w1) : JOut S w p q n x j w1 :=
  ⟨S, h.below hb, Only.of_below hb, Grew.refl S w⟩
theorem JOut.then {S : Nat → Prop} {w w1 w2 : World} {p q n : Nat} {x y : St} {j i : Jn} (h : JOut S w p q n x j w1) (k : ∀ S', JD w1 S' p q n x j → JOut S' w1 p q n y i w2) : JOut S w p q n y i w2 := by
  obtain ⟨S', hj, ho, hg⟩ := h
  exact JOut.trans ho hg (k S' hj)
/-- The device has turned; the journal is as it was. -/
theorem JD.turn {w w' : World} {F G S : Nat → Prop} {p q n : Nat} {x y : St} {j : Jn} (h : JD w S p q n x j) (hG : Jv w G q p j) (hd : ∀ k, F k → ¬ G k) (hF : ∀ k, F k → S k) (hS : ∀ k, G k → S k) (hv : DvOut F w p n y w') : JOut S w p q n y j w' := by
  obtain ⟨F', hv', ho, hg⟩ := hv
  have hl : ∀ k, G k → k < w.heap.size := by obtain ⟨_, _, _, _, _, hl⟩ := hG; exact hl
  have hG' : Jv w' G q p j := hG.keep ho fun k hk hf => hd k hf hk
  refine ⟨fun k => S k ∨ F' k, ⟨⟨F', G, hv', hG', fun k hk hk' => ?_, fun k hk => .inr hk, fun k hk => .inl (hS k hk)⟩, fun k hk => ?_, ?_, fun hk => ?_⟩, ho.mono hF, fun k hk => ?_⟩
  · rcases hg k hk with h1 | h1
    · exact hd k h1 hk'
    · have := hl k hk'; omega
  · rcases hk with hk | hk
    · exact Nat.lt_of_lt_of_le (h.lt k hk) ho.size
    · exact hv'.lt k hk
  · exact tab_only h.tab ho fun hf => h.far (hF _ hf)
  · rcases hk with hk | hk
    · exact h.far hk
    · rcases hg _ hk with h1 | h1
      · exact h.far (hF _ h1)
      · have := h.tab.pos; have e : gTab = 1 := rfl; omega
  · rcases hk with hk | hk
    · exact .inl hk
    · rcases hg k hk with h1 | h1
      · exact .inl (hF k h1)
      · exact .inr h1
abbrev area (p fr se : Nat) : Value := .agg #[.pointer (some ⟨p, 0, none⟩), .int .i64 (fr : Int), .int .i64 (se : Int)]
theorem i64w (x : Int) (h : -9223372036854775808 ≤ x ∧ x ≤ 9223372036854775807) : IntKind.i64.wrap x = x := IntWalk.i64_in _ (by omega)
theorem size_area (w : World) (p fr se : Nat) (h8 : 8 ≤ se) (hm : se ≤ 8192) : Calls Tryz.prog 159 #[area p fr se] w fun e w' => e = .returned (.int .i64 (hsz se : Int)) ∧ Below w.heap.size w w' := by
  have h1 : IntKind.i64.wrap ((se : Int) - 4) = ((se : Int) - 4) := i64w _ (by omega)
  have h2 : ((se : Int) - 4).tdiv 2 = (hsz se : Int) := by rw [Int.tdiv_eq_ediv_of_nonneg (by omega), hsz_is]; omega
  have h3 : IntKind.i64.wrap (hsz se : Int) = (hsz se : Int) := i64w _ (by rw [hsz_is]; omega)
  go_enter Tryz.func159, Tryz.ntmps159
  go_wp2
  go_ret
  exact ⟨rfl, (Below.refl _ _).alloc (Nat.le_refl _) _⟩
def halfAt (fr se half : Nat) : Nat := fr + 4 + half * hsz se
theorem half_area (w : World) (p fr se half : Nat) (h8 : 8 ≤ se) (hm : fr + se ≤ 8192) (hh : half ≤ 1) : Calls Tryz.prog 172 #[area p fr se, .int .i64 (half : Int)] w fun e w' => e = .returned (.int .i64 (halfAt fr se half : Int)) ∧ Below w.heap.size w w' := by
  have hz : hsz se ≤ 4094 := by rw [hsz_is]; omega
  have hzz : half * hsz se ≤ 1 * hsz se := Nat.mul_le_mul_right _ hh
  have h1 : IntKind.i64.wrap ((fr : Int) + 4) = (fr : Int) + 4 := i64w _ (by omega)
  have h2 : IntKind.i64.wrap ((half : Int) * (hsz se : Int)) = (half : Int) * (hsz se : Int) := by
    rw [← Int.natCast_mul]
    exact i64w _ (by omega)
  have h3 : IntKind.i64.wrap ((fr : Int) + 4 + (half : Int) * (hsz se : Int)) = (fr : Int) + 4 + (half : Int) * (hsz se : Int) := by
    rw [← Int.natCast_mul]
    exact i64w _ (by omega)
  have h4 : (halfAt fr se half : Int) = (fr : Int) + 4 + (half : Int) * (hsz se : Int) := by unfold halfAt; simp
  have H4 := Lib.hid h4; clear h4 hz hzz
  go_enter Tryz.func172, Tryz.ntmps172
  go_upto_region 1 with (fail)
  have hb : Blk (w.alloc (.cells #[Value.pointer (some { block := p, off := 0 }), Value.int IntKind.i64 ↑fr, Value.int IntKind.i64 ↑se] 214)) w.heap.size 214 #[Value.pointer (some { block := p, off := 0 }), Value.int IntKind.i64 ↑fr, Value.int IntKind.i64 ↑se] := Blk.new _ _ _
  have c0 := hb.cell 0
  have c1 := hb.cell 1
  have c2 := hb.cell 2
  go_region_held3 (fun v => v.cell? ⟨w.heap.size, 0, none⟩ = some (.pointer (some ⟨p, 0, none⟩)) ∧ v.cell? ⟨w.heap.size, 1, none⟩ = some (.int .i64 fr) ∧ v.cell? ⟨w.heap.size, 2, none⟩ = some (.int .i64 se)) (first | exact ⟨c0, c1, c2⟩ | exact ⟨d0, d1, d2⟩) (first
    | (go_at_call 159; refine (size_area _ p fr se h8 (by omega)).mono ?_; rintro e w1 ⟨rfl, hb1⟩
       have d0 := (hb1.cell (p := ⟨w.heap.size, 0, none⟩) (by simp)).trans c0
       have d1 := (hb1.cell (p := ⟨w.heap.size, 1, none⟩) (by simp)).trans c1
       have d2 := (hb1.cell (p := ⟨w.heap.size, 2, none⟩) (by simp)).trans c2)
    | fail)
  all_goals (go_wp2_with (fail); go_ret; exact ⟨by rw [H4.out]; rfl, ((Below.refl _ _).alloc (Nat.le_refl _) _).drew.trans (hb1.mono (by simp))⟩)
def slotAt (fr n : Nat) : Nat := fr + n % 4
theorem slot_area (w : World) (p fr se n : Nat) (hm : fr + se ≤ 8192) : Calls Tryz.prog 188 #[area p fr se, .int .u64 (n : Int)] w fun e w' => e = .returned (.int .i64 (slotAt fr n : Int)) ∧ Below w.heap.size w w' := by
  have h1 : IntKind.i64.wrap ((fr : Int) + (n : Int) % 4) = (fr : Int) + (n : Int) % 4 := i64w _ (by omega)
  have h2 : IntKind.i64.wrap ((n : Int) % 4) = (n : Int) % 4 := i64w _ (by omega)
  have h3 : (n : Int).tmod 4 = (n : Int) % 4 := Int.tmod_eq_emod_of_nonneg (by omega)
  have h4 : (slotAt fr n : Int) = (fr : Int) + (n : Int) % 4 := by unfold slotAt; omega
  have h5 : IntKind.u64.wrap ((n : Int) % 4) = (n : Int) % 4 := by rw [IntKind.wrap_u64]; omega
  have H4 := Lib.hid h4; clear h4
  go_enter Tryz.func188, Tryz.ntmps188
  go_wp2
  go_ret
  exact ⟨by rw [H4.out]; rfl, (Below.refl _ _).alloc (Nat.le_refl _) _⟩
abbrev headV (n half recs : Nat) : Value := .agg #[.int .u64 (n : Int), .int .i64 (half : Int), .int .i64 (recs : Int)]
def jmark : ByteArray := ⟨#[72, 71, 74, 72]⟩
def hdPre (n fr se half recs : Nat) : ByteArray := jmark ++ putHi n 8 ++ putHi fr 4 ++ putHi se 4 ++ putHi half 4 ++ putHi recs 4
/-- The words of a head's first k numbers. -/
def hdUpto (n fr se half recs : Nat) : Nat → ByteArray
  | 0 => jmark ++ putHi n 8
  | 1 => jmark ++ putHi n 8 ++ putHi fr 4
  | 2 => jmark ++ putHi n 8 ++ putHi fr 4 ++ putHi se 4
  | 3 => jmark ++ putHi n 8 ++ putHi fr 4 ++ putHi se 4 ++ putHi half 4
  | _ => hdPre n fr se half recs
def wordAt (fr se half recs : Nat) : Nat → Nat
  | 0 => fr
  | 1 => se
  | 2 => half
  | _ => recs
def hdS (n fr se half recs : Nat) : ByteArray := padB (hdPre n fr se half recs) 504 ++ putHi n 8
theorem jmark_size : jmark.size = 4 := rfl
theorem hdPre_size (n fr se half recs : Nat) : (hdPre n fr se half recs).size = 28 := by
  unfold hdPre
  simp only [ByteArray.size_append, putHi8, putHi4, jmark_size]
theorem hdUpto_next (n fr se half recs k : Nat) (h : k < 4) : hdUpto n fr se half recs k ++ putHi (wordAt fr se half recs k) 4 = hdUpto n fr se half recs (k + 1) := by
  match k, h with
  | 0, _ => rfl
  | 1, _ => rfl
  | 2, _ => rfl
  | 3, _ => rfl
theorem hdUpto_size (n fr se half recs k : Nat) (h : k ≤ 4) : (hdUpto n fr se half recs k).size = 12 + 4 * k := by
  match k, h with
  | 0, _ => unfold hdUpto; simp only [ByteArray.size_append, putHi8, jmark_size]
  | 1, _ => unfold hdUpto; simp only [ByteArray.size_append, putHi8, putHi4, jmark_size]
  | 2, _ => unfold hdUpto; simp only [ByteArray.size_append, putHi8, putHi4, jmark_size]
  | 3, _ => unfold hdUpto; simp only [ByteArray.size_append, putHi8, putHi4, jmark_size]
  | 4, _ => exact hdPre_size ..
def SecAt (w : World) (n fr se half recs : Nat) (s c : Value) (wr : World) : Prop :=
  ∃ k : Nat, c = .int .i64 (k : Int) ∧ k ≤ 4 ∧ s = .string (hdUpto n fr se half recs k) ∧ Below w.heap.size w wr ∧ Blk wr (w.heap.size + 1) 232 #[.int .u64 (n : Int), .int .i64 (half : Int), .int .i64 (recs : Int)]
theorem word_index (fr se half recs k : Nat) (h : k < 4) (w : World) : (Instr.index 302 (.agg #[.int .i64 (fr : Int), .int .i64 (se : Int), .int .i64 (half : Int), .int .i64 (recs : Int)]) (.int .i64 (k : Int))).run Tryz.prog w = .ok (.int .i64 (wordAt fr se half recs k : Int)) w := by
  have hu := Tryz.underlying302
  match k, h with
  | 0, _ => simp [Instr.index, run_underlying hu, asIntOf, wordAt, Go.part, go_sem]
  | 1, _ => simp [Instr.index, run_underlying hu, asIntOf, wordAt, Go.part, go_sem]
  | 2, _ => simp [Instr.index, run_underlying hu, asIntOf, wordAt, Go.part, go_sem]
  | 3, _ => simp [Instr.index, run_underlying hu, asIntOf, wordAt, Go.part, go_sem]
theorem wordAt_lt {fr se half recs : Nat} (h1 : fr ≤ 8192) (h2 : se ≤ 8192) (h3 : half < 4294967296) (h4 : recs < 4294967296) (k : Nat) : wordAt fr se half recs k < 4294967296 := by
  unfold wordAt
  split <;> omega
theorem sec_world (w : World) (p fr se n half recs : Nat) : ∀ w0, w0 = (w.alloc (Obj.cells #[Value.pointer (some ⟨p, 0, none⟩), Value.int IntKind.i64 ↑fr, Value.int IntKind.i64 ↑se] 214)).alloc (Obj.cells #[Value.int IntKind.u64 ↑n, Value.int IntKind.i64 ↑half, Value.int IntKind.i64 ↑recs] 232) →
    Blk w0 w.heap.size 214 #[Value.pointer (some ⟨p, 0, none⟩), Value.int IntKind.i64 ↑fr, Value.int IntKind.i64 ↑se] ∧ Blk w0 (w.heap.size + 1) 232 #[Value.int IntKind.u64 ↑n, Value.int IntKind.i64 ↑half, Value.int IntKind.i64 ↑recs] ∧ Below w.heap.size w w0 ∧ w0.heap.size = w.heap.size + 2 := by
  rintro w0 rfl
  refine ⟨(Blk.new w _ _).alloc _, ?_, ((Below.refl w.heap.size w).alloc (Nat.le_refl _) _).alloc (by simp) _, by simp⟩
  have := Blk.new (w.alloc (Obj.cells #[Value.pointer (some ⟨p, 0, none⟩), Value.int IntKind.i64 ↑fr, Value.int IntKind.i64 ↑se] 214)) 232 #[Value.int IntKind.u64 ↑n, Value.int IntKind.i64 ↑half, Value.int IntKind.i64 ↑recs]
  simpa using this
theorem sector_area (w : World) (p fr se n half recs : Nat) (h1 : fr ≤ 8192) (h2 : se ≤ 8192) (h3 : half < 4294967296) (h4 : recs < 4294967296) :
    Calls Tryz.prog 189 #[area p fr se, headV n half recs] w fun e w' => e = .returned (.string (hdS n fr se half recs)) ∧ Below w.heap.size w w' := by
  have q8 := putHi8 n
  go_enter Tryz.func189, Tryz.ntmps189
  go_wp2_with (fail)
  refine (putBig_any n 8 _).mono ?_; rintro e w1 ⟨rfl, hb1⟩
  obtain ⟨b1, b2, hB, hs⟩ := sec_world w p fr se n half recs _ rfl
  have e1 := (hb1.cell (p := ⟨w.heap.size, 1, none⟩) (by simp <;> omega)).trans (b1.cell 1)
  have e2 := (hb1.cell (p := ⟨w.heap.size, 2, none⟩) (by simp <;> omega)).trans (b1.cell 2)
  have g0 := (hb1.cell (p := ⟨w.heap.size + 1, 0, none⟩) (by simp <;> omega)).trans (b2.cell 0)
  have g1 := (hb1.cell (p := ⟨w.heap.size + 1, 1, none⟩) (by simp <;> omega)).trans (b2.cell 1)
  have g2 := (hb1.cell (p := ⟨w.heap.size + 1, 2, none⟩) (by simp <;> omega)).trans (b2.cell 2)
  have H1 := Lib.hid (hB.trans (hb1.mono hB.size))
  have G2 := Lib.hid (b2.below hb1 (by simp))
  clear hb1 b1 b2 hB hs
  simp at e1 e2 g0 g1 g2
  go_wp2_with (fail)
  go_loopw [5, 21] (fun s c wr => SecAt w n fr se half recs s c wr) (fun _ c _ => 4 - (intOf c).toNat)
  case atStart => exact ⟨0, rfl, by omega, rfl, H1.out, G2.out⟩
  case round =>
    obtain ⟨k, rfl, hk, rfl, hb, hg⟩ := hrel
    by_cases hlt : k < 4
    · have hi := fun v => word_index fr se half recs k hlt v
      have hw := wordAt_lt h1 h2 h3 h4 k
      have hsz := hdUpto_size n fr se half recs k hk
      have hx : (k : Int) < 4 := by omega
      have HN := Lib.hid (hdUpto_next n fr se half recs k hlt)
      have HB := Lib.hid hb
      have HG := Lib.hid hg
      clear hb hg
      generalize wordAt fr se half recs k = x at *
      have q4 := putHi4 x
      have hcv : IntKind.u64.wrap (x : Int) = (x : Int) := by rw [IntKind.wrap_u64]; omega
      go_wp2_with (fail)
      refine (putBig_any x 4 _).mono ?_; rintro e w2 ⟨rfl, hb2⟩
      have HB2 := Lib.hid (HB.out.trans (hb2.mono HB.out.size))
      have lg := HG.out.lt
      have HG2 := Lib.hid (HG.out.below hb2 lg)
      clear hb2
      go_wp2_with (fail)
      go_roundw
      case rel => exact ⟨k + 1, by go_num, by omega, congrArg Value.string HN.out, HB2.out, HG2.out⟩
      case measure => simp [intOf]; omega
    · obtain rfl : k = 4 := by omega
      have HB := Lib.hid hb
      have c0 : wr.cell? ⟨w.heap.size + 1, 0, none⟩ = some (.int .u64 (n : Int)) := hg.cell 0
      have lg := hg.lt
      have hpz := hdPre_size n fr se half recs
      have hpad : (padB (hdPre n fr se half recs) 504).size = 504 := by unfold padB; rw [ByteArray.size_append, hpz]; simp [ByteArray.size]
      go_wp2_with (fail)
      change Code.wp _ _ _ ⟨#[_, _, _, _, _, .string (hdPre n fr se half recs), _, _, _, _, _, _, _, _, _, _, _, _, _, _, _, _, _, _, _, _, _, _, _, _, _, _, _, _, _, _], _⟩ _
      have HF := Lib.hid (show hdS n fr se half recs = padB (hdPre n fr se half recs) 504 ++ putHi n 8 from rfl)
      have pm := fun v => pad_more (hdPre n fr se half recs) 504 v (by omega) (by omega) (by omega) (by rw [hpz]; omega)
      generalize padB (hdPre n fr se half recs) 504 = d at *
      have PM := Lib.hid pm
      clear hb pm
      go_region_held3 (fun v => v.cell? ⟨w.heap.size + 1, 0, none⟩ = some (.int .u64 (n : Int))) (first | exact c0 | exact c1 | exact c2) (first
        | (go_at_call 205; refine (PM.out _).mono ?_; rintro e w3 ⟨rfl, hb3⟩; have c1 := (hb3.cell (p := ⟨w.heap.size + 1, 0, none⟩) (by simpa using lg)).trans c0; have T3 := Lib.hid (HB.out.drew.trans (hb3.mono HB.out.drew.size)))
        | (go_at_call 162; refine (putBig_any n 8 _).mono ?_; rintro e w4 ⟨rfl, hb4⟩; have c2 := (hb4.cell (p := ⟨w.heap.size + 1, 0, none⟩) (World.block_lt_of_cell? _ _ c1)).trans c1; have T4 := Lib.hid (T3.out.trans (hb4.mono T3.out.size)))
        | fail)
      all_goals (go_wp2_with (fail); go_ret; exact ⟨by rw [HF.out]; rfl, T4.out⟩)
abbrev areaI (p : Nat) (fr se : Int) : Value := .agg #[.pointer (some ⟨p, 0, none⟩), .int .i64 fr, .int .i64 se]
theorem dv_drewN {w : World} {F : Nat → Prop} {p n : Nat} {x : St} (h : Dv w F p n x) (m : Nat) : Dv (w.drewN m) F p n x := h.keep (S := nobody) (Only.of_below (belDrew _ _ m)) (fun _ _ => id)
def fitsB (n : Nat) (fr se : Int) : Bool := decide (0 ≤ fr ∧ 8 ≤ se ∧ se ≤ (n : Int) - fr)
theorem fits_area (w : World) {F : Nat → Prop} {p n : Nat} {x : St} (h : Dv w F p n x) (fr se : Int) (h1 : -9223372036854775808 ≤ fr ∧ fr ≤ 9223372036854775807) :
    Calls Tryz.prog 115 #[areaI p fr se] w fun e w' => e = .returned (.bool (fitsB n fr se)) ∧ Below w.heap.size w w' := by
  have hm := h.good.most
  have hB := Lib.hid ((Below.refl w.heap.size w).alloc (Nat.le_refl _) (.cells #[Value.pointer (some ⟨p, 0, none⟩), .int .i64 fr, .int .i64 se] 214))
  have hD := Lib.hid (h.keep (S := nobody) (Only.of_below hB.out) (fun _ _ => id))
  by_cases g1 : 0 ≤ fr
  · by_cases g2 : 8 ≤ se
    · have hw : IntKind.i64.wrap ((n : Int) - fr) = (n : Int) - fr := i64w _ (by omega)
      by_cases g3 : se ≤ (n : Int) - fr
      · have HV := Lib.hid (show fitsB n fr se = true from decide_eq_true ⟨g1, g2, g3⟩)
        clear h
        go_enter Tryz.func115, Tryz.ntmps115
        go_upto_region 1 with (fail)
        go_quiet ((go_at_call 62; exact (size_any _ (dv_drewN hD.out _)).mono (fun _ _ h => ⟨h.1, _, h.2.symm⟩)))
        go_wp2_with (fail)
        go_ret
        exact ⟨by rw [HV.out]; rfl, hB.out.trans (belDrew _ _ nq)⟩
      · have HV := Lib.hid (show fitsB n fr se = false from decide_eq_false (fun h => g3 h.2.2))
        clear h
        go_enter Tryz.func115, Tryz.ntmps115
        go_upto_region 1 with (fail)
        go_quiet ((go_at_call 62; exact (size_any _ (dv_drewN hD.out _)).mono (fun _ _ h => ⟨h.1, _, h.2.symm⟩)))
        go_wp2_with (fail)
        go_ret
        exact ⟨by rw [HV.out]; rfl, hB.out.trans (belDrew _ _ nq)⟩
    · have HV := Lib.hid (show fitsB n fr se = false from decide_eq_false (fun h => g2 h.2.1))
      clear h
      go_enter Tryz.func115, Tryz.ntmps115
      go_upto_region 1 with (fail)
      go_quiet (fail)
      go_wp2_with (fail)
      go_ret
      exact ⟨by rw [HV.out]; rfl, hB.out.trans (belDrew _ _ nq)⟩
  · have HV := Lib.hid (show fitsB n fr se = false from decide_eq_false (fun h => g1 h.1))
    clear h
    go_enter Tryz.func115, Tryz.ntmps115
    go_upto_region 1 with (fail)
    go_quiet (fail)
    go_wp2_with (fail)
    go_ret
    exact ⟨by rw [HV.out]; rfl, hB.out.trans (belDrew _ _ nq)⟩
/-- A write where there is room: the device behind it, and whether it was done. -/
def St.put (x : St) (i : Nat) (s : ByteArray) (m : Nat) : St × Bool := if x.down then (x, false) else x.wr i s 0 m
def St.flsh (x : St) : St × Bool := if x.down then (x, false) else if x.due then (x.fall, false) else (x.flushed, true)
theorem flush_flsh (x : St) : x.flush = (x.flsh.1, wrCode x.flsh.2) := by
  unfold St.flush St.flsh
  split
  · rfl
  · split <;> rfl
theorem flush_any (w : World) {F : Nat → Prop} {p n : Nat} {x : St} (h : Dv w F p n x) (hk : x.ops ≤ 1000000000000) :
    Calls Tryz.prog 124 #[.pointer (some ⟨p, 0, none⟩)] w fun e w' => e = .returned (.int .i64 (wrCode x.flsh.2)) ∧ DvOut F w p n x.flsh.1 w' := by
  have e := flush_flsh x
  have e1 : x.flush.1 = x.flsh.1 := by rw [e]
  have e2 : x.flush.2 = wrCode x.flsh.2 := by rw [e]
  rw [← e1, ← e2]
  cases hd : x.down with
  | true => exact flush_down w h hd
  | false =>
    cases hu : x.due with
    | true => exact flush_due w h hd hu
    | false => exact flush_ok w h hd hu hk
theorem put_any (w : World) {F : Nat → Prop} {p n : Nat} {x : St} (h : Dv w F p n x) (i m : Nat) (s : ByteArray) (hs : s.size = m * 512) (hi : i + m ≤ n) (hk : x.ops ≤ 1000000000000) :
    Calls Tryz.prog 123 #[.pointer (some ⟨p, 0, none⟩), .int .i64 (i : Int), .string s] w fun e w' => e = .returned (.int .i64 (wrCode (x.put i s m).2)) ∧ DvOut F w p n (x.put i s m).1 w' := by
  have hm := h.good.most
  have hq : s.size / 512 = m := by omega
  cases hd : x.down with
  | true =>
    have hw : x.why n i (m : Int) = 41 := why_down (by omega) hd
    have := write_why w h (i : Int) s (by omega) (by omega) (by omega) (by rw [hq, hw]; decide)
    have e : x.write n i s = (x, 41) := by unfold St.write; rw [if_neg (by omega), hq, if_pos (by rw [hw]; decide), hw]
    rw [e] at this
    have e2 : x.put i s m = (x, false) := by unfold St.put; rw [if_pos hd]
    rw [e2]
    exact this
  | false =>
    have hw : x.why n i (m : Int) = 0 := why_ok (by omega) hd
    have e2 : x.put i s m = x.wr i s 0 m := by unfold St.put; rw [if_neg (by simp [hd])]
    rw [e2]
    exact (write_ok w h i m s hs hw hk).mono fun e w' hh => hh
theorem JD.set {w : World} {S : Nat → Prop} {p q n : Nat} {x : St} {j : Jn} (h : JD w S p q n x j) (i : Nat) (u : Value) (j' : Jn) (hc : ∀ rv, (jCells p j rv).setIfInBounds i u = jCells p j' rv) (hr : j'.recs = j.recs) :
    JOut S w p q n x j' (w.setCell ⟨q, i, none⟩ u) := by
  obtain ⟨F, G, hF, ⟨rv, hb, hrec, hq, hg, hl⟩, hd, hs, hs'⟩ := h.both
  have ho : Only S w (w.setCell ⟨q, i, none⟩ u) := (Only.refl S w).setCell (.inl (hs' q hq)) u
  have hoq : Only (its q) w (w.setCell ⟨q, i, none⟩ u) := only_put w q i u
  have hne := recs_apart hrec hb (by decide)
  refine ⟨S, ⟨⟨F, G, hF.keep hoq (fun k hk e => hd k hk (by rw [show k = q from e]; exact hq)), ⟨rv, by rw [← hc]; exact hb.put i u, ?_, hq, hg, fun k hk => Nat.lt_of_lt_of_le (hl k hk) hoq.size⟩, hd, hs, hs'⟩, fun k hk => Nat.lt_of_lt_of_le (h.lt k hk) ho.size, tab_only h.tab ho h.far, h.far⟩, ho, Grew.refl S w⟩
  rw [hr]
  exact hrec.keep fun g hg' => Below.heap_setCell w _ u g (fun e => hne (by rw [hg', e]))
theorem JD.cells {w : World} {S : Nat → Prop} {p q n : Nat} {x : St} {j : Jn} (h : JD w S p q n x j) : ∃ rv, Blk w q 216 (jCells p j rv) ∧ Recs w rv j.recs ∧ S q := by
  obtain ⟨F, G, hF, ⟨rv, hb, hrec, hq, hg, hl⟩, hd, hs, hs'⟩ := h.both
  exact ⟨rv, hb, hrec, hs' q hq⟩
theorem JD.good {w : World} {S : Nat → Prop} {p q n : Nat} {x : St} {j : Jn} (h : JD w S p q n x j) : x.Good n := by
  obtain ⟨F, G, hF, _⟩ := h.both
  exact hF.good
theorem note_any (w : World) {S : Nat → Prop} {p q n : Nat} {x : St} {j : Jn} (h : JD w S p q n x j) (b : Bool) :
    Calls Tryz.prog 160 #[.pointer (some ⟨q, 0, none⟩), .int .i64 (wrCode b)] w fun e w' => e = .returned (.int .i64 (wrCode b)) ∧ JOut S w p q n x { j with unfit := !b } w' := by
  obtain ⟨rv, hb, _, _⟩ := h.cells
  have c8 : w.cell? ⟨q, 8, none⟩ = some (.bool j.unfit) := hb.cell 8
  have f8 := hb.free 8
  have H := Lib.hid (h.set 8 (.bool !b) { j with unfit := !b } (fun _ => rfl) rfl)
  clear h hb
  cases b with
  | true =>
    change Calls Tryz.prog 160 #[.pointer (some ⟨q, 0, none⟩), .int .i64 0] w _
    go_enter Tryz.func160, Tryz.ntmps160
    go_wp2
    go_ret
    exact ⟨rfl, H.out⟩
  | false =>
    change Calls Tryz.prog 160 #[.pointer (some ⟨q, 0, none⟩), .int .i64 41] w _
    go_enter Tryz.func160, Tryz.ntmps160
    go_wp2
    go_ret
    exact ⟨rfl, H.out⟩
theorem jflush_fit (w : World) {S : Nat → Prop} {p q n : Nat} {x : St} {j : Jn} (h : JD w S p q n x j) (hu : j.unfit = false) (hk : x.ops ≤ 1000000000000) :
    Calls Tryz.prog 131 #[.pointer (some ⟨q, 0, none⟩)] w fun e w' => e = .returned (.int .i64 (wrCode x.flsh.2)) ∧ JOut S w p q n x.flsh.1 { j with unfit := !x.flsh.2 } w' := by
  obtain ⟨F, G, hF, hG, hd, hs, hs'⟩ := h.both
  have HF := Lib.hid (flush_any w hF hk)
  have HT := Lib.hid (fun w' => h.turn (w' := w') (y := x.flsh.1) hG hd hs hs')
  obtain ⟨rv, hb, _, _⟩ := h.cells
  have c8 : w.cell? ⟨q, 8, none⟩ = some (.bool j.unfit) := hb.cell 8
  have c0 : w.cell? ⟨q, 0, none⟩ = some (.pointer (some ⟨p, 0, none⟩)) := hb.cell 0
  rw [hu] at c8
  clear h hb hF hG hd hs hs' hu hk
  generalize x.flsh = r at *
  go_enter Tryz.func131, Tryz.ntmps131
  go_wp2_with (fail)
  refine HF.out.mono ?_
  rintro e w1 ⟨rfl, hv⟩
  have H1 := Lib.hid (HT.out _ hv)
  clear hv
  go_wp2_with (fail)
  obtain ⟨S1, j1, o1, g1⟩ := H1.out
  have O1 := Lib.hid o1; have G1 := Lib.hid g1; clear o1 g1
  refine (note_any _ j1 _).mono ?_
  rintro e w2 ⟨rfl, hv⟩
  have H2 := Lib.hid (JOut.trans O1.out G1.out hv)
  clear hv
  go_wp2_with (fail)
  go_ret
  exact ⟨rfl, H2.out⟩
theorem jwrite_fit (w : World) {S : Nat → Prop} {p q n : Nat} {x : St} {j : Jn} (h : JD w S p q n x j) (hu : j.unfit = false) (hk : x.ops ≤ 1000000000000) (i m : Nat) (s : ByteArray) (hs0 : s.size = m * 512) (hi : i + m ≤ n) :
    Calls Tryz.prog 118 #[.pointer (some ⟨q, 0, none⟩), .int .i64 (i : Int), .string s] w fun e w' => e = .returned (.int .i64 (wrCode (x.put i s m).2)) ∧ JOut S w p q n (x.put i s m).1 { j with unfit := !(x.put i s m).2 } w' := by
  obtain ⟨F, G, hF, hG, hd, hs, hs'⟩ := h.both
  have HF := Lib.hid (put_any w hF i m s hs0 hi hk)
  have HT := Lib.hid (fun w' => h.turn (w' := w') (y := (x.put i s m).1) hG hd hs hs')
  obtain ⟨rv, hb, _, _⟩ := h.cells
  have c8 : w.cell? ⟨q, 8, none⟩ = some (.bool j.unfit) := hb.cell 8
  have c0 : w.cell? ⟨q, 0, none⟩ = some (.pointer (some ⟨p, 0, none⟩)) := hb.cell 0
  rw [hu] at c8
  clear h hb hF hG hd hs hs' hu hk hs0 hi
  generalize x.put i s m = r at *
  go_enter Tryz.func118, Tryz.ntmps118
  go_wp2_with (fail)
  refine HF.out.mono ?_
  rintro e w1 ⟨rfl, hv⟩
  have H1 := Lib.hid (HT.out _ hv)
  clear hv
  go_wp2_with (fail)
  obtain ⟨S1, j1, o1, g1⟩ := H1.out
  have O1 := Lib.hid o1; have G1 := Lib.hid g1; clear o1 g1
  refine (note_any _ j1 _).mono ?_
  rintro e w2 ⟨rfl, hv⟩
  have H2 := Lib.hid (JOut.trans O1.out G1.out hv)
  clear hv
  go_wp2_with (fail)
  go_ret
  exact ⟨rfl, H2.out⟩
theorem jsize_any (w : World) {S : Nat → Prop} {p q n : Nat} {x : St} {j : Jn} (h : JD w S p q n x j) (hf : j.Fits n) :
    Calls Tryz.prog 117 #[.pointer (some ⟨q, 0, none⟩)] w fun e w' => e = .returned (.int .i64 (j.size : Int)) ∧ Below w.heap.size w w' := by
  obtain ⟨rv, hb, _, _⟩ := h.cells
  have hm := h.good.most
  have hz := fun v => size_area v p j.fr j.se hf.se (by have := hf.fr; omega)
  have c0 : w.cell? ⟨q, 0, none⟩ = some (.pointer (some ⟨p, 0, none⟩)) := hb.cell 0
  have c1 : w.cell? ⟨q, 1, none⟩ = some (.int .i64 (j.fr : Int)) := hb.cell 1
  have c2 : w.cell? ⟨q, 2, none⟩ = some (.int .i64 (j.se : Int)) := hb.cell 2
  clear hb h hf
  go_enter Tryz.func117, Tryz.ntmps117
  go_wp2_with (fail)
  refine (hz _).mono ?_
  rintro e w1 ⟨rfl, hb1⟩
  have HB := Lib.hid hb1; clear hb1
  go_wp2_with (fail)
  go_ret
  exact ⟨rfl, HB.out⟩
theorem room_nil (w : World) : Calls Tryz.prog 170 #[.pointer none] w fun e w' => e = .returned (.int .i64 0) ∧ w = w' := by
  go_enter Tryz.func170, Tryz.ntmps170
  go_wp2
  go_ret
  exact ⟨rfl, rfl⟩
theorem room_any (w : World) {S : Nat → Prop} {p q n : Nat} {x : St} {j : Jn} (h : JD w S p q n x j) (hf : j.Fits n) :
    Calls Tryz.prog 170 #[.pointer (some ⟨q, 0, none⟩)] w fun e w' => e = .returned (.int .i64 ((j.size : Int) - j.used)) ∧ Below w.heap.size w w' := by
  obtain ⟨rv, hb, _, _⟩ := h.cells
  have hm := h.good.most
  have hu := hf.used
  have hsm : j.size ≤ 8192 := by have := hf.fr; unfold Jn.size; rw [hsz_is]; omega
  have hww : IntKind.i64.wrap ((j.size : Int) - j.used) = (j.size : Int) - j.used := i64w _ (by omega)
  have HZ := Lib.hid (fun m => jsize_any (w.drewN m) (h.below (belDrew _ _ m)) hf)
  have c5 : w.cell? ⟨q, 5, none⟩ = some (.int .i64 (j.used : Int)) := hb.cell 5
  have lq := hb.lt
  have HZ2 := Lib.hid (jsize_any w.drew (h.below (belDrew _ _ 1)) hf)
  clear hb h hf
  go_enter Tryz.func170, Tryz.ntmps170
  go_upto_region 3 with (fail)
  go_region_held3 (fun v => v.cell? ⟨q, 5, none⟩ = some (.int .i64 (j.used : Int))) (first | exact c5 | exact d5) (first
    | (go_at_call 117; refine HZ2.out.mono ?_; rintro e w1 ⟨rfl, hb1⟩; have d5 := (hb1.cell (p := ⟨q, 5, none⟩) lq).trans c5; have T1 := Lib.hid ((belDrew w.heap.size w 1).trans (hb1.mono (Nat.le_refl _))))
    | fail)
  all_goals (go_wp2_with (fail); go_ret; exact ⟨rfl, T1.out⟩)
/-- What keeps a text from being entered. -/
def Jn.why (j : Jn) (t : ByteArray) (room : Int) : Int := if j.unfit then 41 else if 65536 < t.size then 2 else if room < secF t.size then 60 else 0
theorem refuse_nil (w : World) (t : ByteArray) (r : Int) : Calls Tryz.prog 116 #[.pointer none, .string t, .int .i64 r] w fun e w' => e = .returned (.int .i64 1) ∧ w = w' := by
  go_enter Tryz.func116, Tryz.ntmps116
  go_wp2
  go_ret
  exact ⟨rfl, rfl⟩
theorem refuse_any (w : World) {S : Nat → Prop} {p q n : Nat} {x : St} {j : Jn} (h : JD w S p q n x j) (t : ByteArray) (r : Int) :
    Calls Tryz.prog 116 #[.pointer (some ⟨q, 0, none⟩), .string t, .int .i64 r] w fun e w' => e = .returned (.int .i64 (j.why t r)) ∧ w = w' := by
  obtain ⟨rv, hb, _, _⟩ := h.cells
  have c8 : w.cell? ⟨q, 8, none⟩ = some (.bool j.unfit) := hb.cell 8
  clear h hb
  cases hu : j.unfit with
  | true =>
    have HV := Lib.hid (show j.why t r = 41 by unfold Jn.why; rw [if_pos hu])
    rw [hu] at c8
    clear hu
    go_enter Tryz.func116, Tryz.ntmps116
    go_wp2_with (fail)
    go_ret
    exact ⟨by rw [HV.out]; rfl, rfl⟩
  | false =>
    rw [hu] at c8
    by_cases h1 : 65536 < t.size
    · have HV := Lib.hid (show j.why t r = 2 by unfold Jn.why; rw [if_neg (by simp [hu]), if_pos h1])
      have h1' : (65536 : Int) < t.size := by omega
      clear hu
      go_enter Tryz.func116, Tryz.ntmps116
      go_wp2_with (fail)
      go_ret
      exact ⟨by rw [HV.out]; rfl, rfl⟩
    · have h1' : ¬ (65536 : Int) < t.size := by omega
      have hsec := fun v => sectors_in t.size v (by omega)
      by_cases h2 : r < secF t.size
      · have HV := Lib.hid (show j.why t r = 60 by unfold Jn.why; rw [if_neg (by simp [hu]), if_neg h1, if_pos h2])
        clear hu
        go_enter Tryz.func116, Tryz.ntmps116
        go_wp2_with (fail)
        refine (hsec _).mono ?_
        rintro e w1 ⟨rfl, rfl⟩
        go_wp2_with (fail)
        go_ret
        exact ⟨by rw [HV.out]; rfl, rfl⟩
      · have HV := Lib.hid (show j.why t r = 0 by unfold Jn.why; rw [if_neg (by simp [hu]), if_neg h1, if_neg h2])
        clear hu
        go_enter Tryz.func116, Tryz.ntmps116
        go_wp2_with (fail)
        refine (hsec _).mono ?_
        rintro e w1 ⟨rfl, rfl⟩
        go_wp2_with (fail)
        go_ret
        exact ⟨by rw [HV.out]; rfl, rfl⟩
theorem base_any (w : World) {S : Nat → Prop} {p q n : Nat} {x : St} {j : Jn} (h : JD w S p q n x j) (ht : j.base.size ≤ 65536) :
    Calls Tryz.prog 178 #[.pointer (some ⟨q, 0, none⟩)] w fun e w' => e = .returned (.string j.base) ∧ Below w.heap.size w w' := by
  obtain ⟨rv, hb, _, _⟩ := h.cells
  have c6 : w.cell? ⟨q, 6, none⟩ = some (.string j.base) := hb.cell 6
  have hc := fun v => clone_any j.base v (by omega)
  clear h hb ht
  go_enter Tryz.func178, Tryz.ntmps178
  go_wp2_with (fail)
  refine (hc _).mono ?_
  rintro e w1 ⟨rfl, hb1⟩
  have HB := Lib.hid hb1; clear hb1
  go_wp2_with (fail)
  go_ret
  exact ⟨rfl, HB.out⟩
theorem sync_fit (w : World) {S : Nat → Prop} {p q n : Nat} {x : St} {j : Jn} (h : JD w S p q n x j) (hu : j.unfit = false) (hk : x.ops ≤ 1000000000000) :
    Calls Tryz.prog 74 #[.pointer (some ⟨q, 0, none⟩)] w fun e w' => e = .returned (.int .i64 (wrCode x.flsh.2)) ∧ JOut S w p q n x.flsh.1 { j with unfit := !x.flsh.2 } w' := by
  have HF := Lib.hid (jflush_fit w h hu hk)
  clear h hu hk
  go_enter Tryz.func74, Tryz.ntmps74
  go_wp2_with (fail)
  refine HF.out.mono ?_
  rintro e w1 ⟨rfl, hv⟩
  have HV := Lib.hid hv; clear hv
  go_wp2_with (fail)
  go_ret
  exact ⟨rfl, HV.out⟩
/-- Of Records' loop: k texts are copied. -/
def RcAt (w : World) (g : Nat) (l : List ByteArray) (c : Value) (wr : World) : Prop :=
  ∃ (k : Nat) (cur : Array Value), c = .int .i64 (k : Int) ∧ k ≤ l.length ∧ Blk wr g 9 cur ∧ cur.size = l.length ∧ cur.toList.take k = (l.take k).map .string ∧ Below w.heap.size w wr
theorem rc_next {cur : Array Value} {l : List ByteArray} {k : Nat} {s : ByteArray} (hk : l[k]? = some s) (hs : cur.size = l.length) (ht : cur.toList.take k = (l.take k).map .string) :
    (cur.setIfInBounds k (.string s)).toList.take (k + 1) = (l.take (k + 1)).map .string := by
  have hl : k < l.length := (List.getElem?_eq_some_iff.1 hk).1
  rw [Array.toList_setIfInBounds, List.take_add_one, List.take_add_one, List.map_append, hk, ← ht]
  congr 1
  · rw [List.take_set, List.set_eq_of_length_le (by simp; omega)]
  · simp [hs, hl]
theorem records_any (w : World) {S : Nat → Prop} {p q n : Nat} {x : St} {j : Jn} (h : JD w S p q n x j) (hl : j.recs.length ≤ 8192) (ht : ∀ s ∈ j.recs, s.size ≤ 65536) :
    Calls Tryz.prog 179 #[.pointer (some ⟨q, 0, none⟩)] w fun e w' => ∃ c, e = .returned (.slice (some ⟨w.heap.size, 0, none⟩) j.recs.length c) ∧ Recs w' (.slice (some ⟨w.heap.size, 0, none⟩) j.recs.length c) j.recs ∧ Below w.heap.size w w' := by
  obtain ⟨rv, hb, hr, _⟩ := h.cells
  obtain ⟨A, c, rfl⟩ := hr.form
  have c7 : w.cell? ⟨q, 7, none⟩ = some (.slice A j.recs.length c) := hb.cell 7
  have lq := hb.lt
  have HR := Lib.hid hr
  generalize j.recs = l at *
  have hmk : (Instr.makeSlice 101 (.int .i64 (l.length : Int)) (.int .i64 (l.length : Int))).run Tryz.prog w = .ok (.slice (some ⟨w.heap.size, 0, none⟩) l.length l.length) (w.alloc (.cells (mades l.length) 9)) := make_texts l.length hl w
  have HN := Lib.hid (Blk.new w 9 (mades l.length))
  have HZ := Lib.hid (mades_size l.length)
  have d7 := (Below.heap_alloc w (.cells (mades l.length) 9) q lq)
  have e7 : (w.alloc (.cells (mades l.length) 9)).cell? ⟨q, 7, none⟩ = some (.slice A l.length c) := (World.cell?_of_block d7).trans c7
  have HB := Lib.hid ((Below.refl w.heap.size w).alloc (Nat.le_refl _) (.cells (mades l.length) 9))
  generalize mades l.length = z at *
  clear hb hr h d7
  go_enter Tryz.func179, Tryz.ntmps179
  go_wp2_with (fail)
  go_loopw [19] (fun c wr => RcAt w w.heap.size l c wr) (fun c _ => l.length - (intOf c).toNat)
  case atStart => exact ⟨0, z, rfl, Nat.zero_le _, HN.out, HZ.out, by simp, HB.out⟩
  case round =>
    obtain ⟨k, cur, rfl, hk, hb, hs, hc, hbl⟩ := hrel
    by_cases hlt : k < l.length
    · obtain ⟨s, hks⟩ : ∃ s, l[k]? = some s := ⟨_, List.getElem?_eq_getElem hlt⟩
      obtain ⟨g, o, rfl, hcell⟩ := HR.out.cell hks
      have HX := Lib.hid (rc_next hks hs hc)
      have hsz := ht s (List.mem_of_getElem? hks)
      have lg := World.block_lt_of_cell? _ _ hcell
      have hcr := (hbl.cell (p := ⟨g, o + k, none⟩) lg).trans hcell
      have HK := Lib.hid hlt
      have hx : (k : Int) < l.length := by omega
      have HBK := Lib.hid hb
      have HS := Lib.hid hs
      have HBL := Lib.hid hbl
      clear hb hs hc hbl hks
      go_wp2_with (fail)
      refine (clone_any s _ (by omega)).mono ?_
      rintro e w3 ⟨rfl, hb3⟩
      have hb4 := HBK.out.below hb3 HBK.out.lt
      have HB4 := Lib.hid (HBL.out.trans (hb3.mono HBL.out.size))
      obtain ⟨u0, h0⟩ : ∃ u, w3.cell? ⟨w.heap.size, k, none⟩ = some u := ⟨_, (hb4.cell k).trans (Array.getElem?_eq_getElem (by rw [HS.out]; exact HK.out))⟩
      have f0 := hb4.free k
      have HP := Lib.hid (hb4.put k (.string s))
      clear hb3 hb4
      go_wp2_with (fail)
      go_roundw
      case rel => exact ⟨k + 1, _, by go_num, HK.out, HP.out, by simpa using HS.out, HX.out, HB4.out.setCell (p := ⟨w.heap.size, k, none⟩) (Nat.le_refl _) _⟩
      case measure => simp [intOf]; omega
    · obtain rfl : k = l.length := by omega
      have HF := Lib.hid (show Recs wr (.slice (some ⟨w.heap.size, 0, none⟩) l.length l.length) l from .inr ⟨w.heap.size, 0, l.length, cur, rfl, hb, by omega, Nat.le_refl _, by unfold maxLen; omega, by rw [List.drop_zero, hc, List.take_length]⟩)
      have HBL := Lib.hid hbl
      clear hb hs hc hbl
      go_wp2_with (fail)
      go_ret
      exact ⟨_, rfl, HF.out, HBL.out⟩
end Go.Proofs.YtglfjlbhjaemgaaGreatDoor
