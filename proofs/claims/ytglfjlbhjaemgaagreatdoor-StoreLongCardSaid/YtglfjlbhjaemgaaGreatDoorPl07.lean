/- The code's Set where it refuses; its Drop. What lists of extents mean, block by block: good lists that mean the same are the same. Find, Used, copies, comparisons. Of each block where it stands: the document's arrays of numbers, and the extents of such an array. The document's spread and gather. The document's Find, Used, Set, Drop, Same. What wakes; which lists are extents; others set, blocks dropped. -/
import Derived.Test.YtglfjlbhjaemgaaGreatDoorPl06
namespace Go.Proofs.YtglfjlbhjaemgaaGreatDoor.Ext
open Go.RowKit
theorem not_true (v : World) : Sem.run Tryz.prog (Op.unary UnOp.not (.bool true)) v = .ok (.bool false) v := rfl
theorem not_false (v : World) : Sem.run Tryz.prog (Op.unary UnOp.not (.bool false)) v = .ok (.bool true) v := rfl
set_option maxRecDepth 100000 in
set_option maxHeartbeats 4000000 in
theorem set_no1 (A : Option Addr) (c : Nat) (l : List Ex) (x : Ex) (w : World) (hl : Exts w A l) (hg : goodB l = false) (hx : x.Wf) (hn : l.length ≤ maxLen) :
    Calls Tryz.prog 163 #[.slice A l.length c, exV x] w fun e w' => e = .returned (.tuple #[.slice none 0 0, .int .i64 70]) ∧ Below w.heap.size w w' := by
  obtain ⟨hbx, hal, hb0⟩ := alone_new w x hx _ rfl
  have HL0 := Lib.hid hl; have HB0 := Lib.hid hb0; have HG := Lib.hid hg
  clear hl hbx hal hb0 hg
  unfold exV
  go_enter Tryz.func163, Tryz.ntmps163
  go_upto_region 2 with (fail)
  change Code.wp _ _ _ _ ((w.alloc (.cells #[.int .i64 x.l, .int .i64 x.b, .int .i64 x.a] 158)).alloc (.cells #[.int .i64 x.l, .int .i64 x.b, .int .i64 x.a] 158))
  generalize hw0 : (w.alloc (.cells #[.int .i64 x.l, .int .i64 x.b, .int .i64 x.a] 158)).alloc (.cells #[.int .i64 x.l, .int .i64 x.b, .int .i64 x.a] 158) = w0 at *
  clear hw0
  have HGA := Lib.hid (fun v (h : Exts v A l) => good_any A c l v h hn)
  rw [HG.out] at HGA
  have HL := Lib.hid ((HL0.out.kept (fun hn a ha => HB0.out.block _ (HL0.out.lt hn a ha)) : Exts w0 A l))
  go_wp2_with (fail)
  refine (HGA.out _ HL.out).mono ?_; rintro e w1 ⟨rfl, hb1⟩
  have HB1 := Lib.hid (HB0.out.trans (hb1.mono HB0.out.size))
  clear hb1
  have hnt := not_false w1
  go_wp2_with (fail)
  go_ret2
  exact ⟨rfl, HB1.out⟩
set_option maxRecDepth 100000 in
set_option maxHeartbeats 4000000 in
theorem set_no2 (A : Option Addr) (c : Nat) (l : List Ex) (x : Ex) (w : World) (hl : Exts w A l) (hg : goodB l = true) (hx : x.Wf) (hf : fitsB x = false) (hn : l.length ≤ maxLen) :
    Calls Tryz.prog 163 #[.slice A l.length c, exV x] w fun e w' => e = .returned (.tuple #[.slice none 0 0, .int .i64 70]) ∧ Below w.heap.size w w' := by
  obtain ⟨hbx, hal, hb0⟩ := alone_new w x hx _ rfl
  have hg1 : goodB [x] = false := by unfold goodB chainB; rw [hf]; rfl
  have HL0 := Lib.hid hl; have HB0 := Lib.hid hb0; have HG := Lib.hid hg; have HA := Lib.hid hal; have HG1 := Lib.hid hg1
  clear hl hbx hal hb0 hg hg1 hf
  unfold exV
  go_enter Tryz.func163, Tryz.ntmps163
  go_upto_region 2 with (fail)
  change Code.wp _ _ _ _ ((w.alloc (.cells #[.int .i64 x.l, .int .i64 x.b, .int .i64 x.a] 158)).alloc (.cells #[.int .i64 x.l, .int .i64 x.b, .int .i64 x.a] 158))
  generalize hw0 : (w.alloc (.cells #[.int .i64 x.l, .int .i64 x.b, .int .i64 x.a] 158)).alloc (.cells #[.int .i64 x.l, .int .i64 x.b, .int .i64 x.a] 158) = w0 at *
  clear hw0
  have HGA := Lib.hid (fun v (h : Exts v A l) => good_any A c l v h hn)
  rw [HG.out] at HGA
  have HGB := Lib.hid (fun v (h : Exts v (some ⟨w.heap.size + 1, 0, none⟩) [x]) => good_any (some ⟨w.heap.size + 1, 0, none⟩) 1 [x] v h (by unfold maxLen; simp))
  rw [HG1.out] at HGB
  have HL := Lib.hid ((HL0.out.kept (fun hn a ha => HB0.out.block _ (HL0.out.lt hn a ha)) : Exts w0 A l))
  go_wp2_with (fail)
  refine (HGA.out _ HL.out).mono ?_; rintro e w1 ⟨rfl, hb1⟩
  have HB1 := Lib.hid (HB0.out.trans (hb1.mono HB0.out.size))
  have HA1 := Lib.hid (HA.out.below hb1)
  clear hb1
  have hnt := not_true w1
  go_wp2_with (fail)
  refine (HGB.out _ HA1.out).mono ?_; rintro e w2 ⟨rfl, hb2⟩
  have HB2 := Lib.hid (HB1.out.trans (hb2.mono HB1.out.size))
  clear hb2 hnt
  have hnt := not_false w2
  go_wp2_with (fail)
  go_ret2
  exact ⟨rfl, HB2.out⟩
set_option maxRecDepth 100000 in
set_option maxHeartbeats 4000000 in
theorem drop_ok (A : Option Addr) (c : Nat) (l : List Ex) (lba n : Int) (w : World) (hl : Exts w A l) (hg : goodB l = true) (h1 : 0 ≤ lba) (h2 : 0 ≤ n) (h3 : n ≤ 4096 - lba) (hn : l.length ≤ 100000) (hfit : ∀ y ∈ l, y.Fits) :
    Calls Tryz.prog 137 #[.slice A l.length c, .int .i64 lba, .int .i64 n] w fun e w' => ∃ A' c', e = .returned (.tuple #[.slice A' (dropX l lba n).length c', .int .i64 0]) ∧ ExtsF w.heap.size w' A' (dropX l lba n) ∧ Below w.heap.size w w' := by
  have HL := Lib.hid hl; have HG := Lib.hid hg; have HFT := Lib.hid hfit
  clear hl hg hfit
  have HGA := Lib.hid (fun v (h : Exts v A l) => good_any A c l v h (by unfold maxLen; omega))
  rw [HG.out] at HGA
  have g1 : ¬ lba < 0 := by omega
  have g2 : ¬ n < 0 := by omega
  have g3 : ¬ n > 4096 - lba := by omega
  have e1 : IntKind.i64.wrap (4096 - lba) = 4096 - lba := i64w _ (by omega)
  have e2 : IntKind.i64.wrap (lba + n) = lba + n := i64w _ (by omega)
  have HBD := Lib.hid (show (0 ≤ lba ∧ lba ≤ 4096) ∧ (0 ≤ lba + n ∧ lba + n ≤ 4096) by omega)
  clear h1 h2 h3
  go_enter Tryz.func137, Tryz.ntmps137
  go_wp2_with (fail)
  refine (HGA.out _ HL.out).mono ?_; rintro e w1 ⟨rfl, hb1⟩
  have HL1 := Lib.hid (HL.out.below hb1)
  have HB1 := Lib.hid hb1
  clear hb1
  have hnt := not_true w1
  go_wp2_with (fail)
  refine (left_any A c l 0 lba _ HL1.out).mono ?_; rintro e w2 ⟨p0, p1, p2, rfl, hI2, hb2⟩
  have HI2 := Lib.hid hI2
  have HL2 := Lib.hid (HL1.out.below hb2)
  have HB2 := Lib.hid (HB1.out.trans (hb2.mono HB1.out.size))
  clear hI2 hb2 hnt
  go_wp2_with (fail)
  refine (left_any A c l (lba + n) 4096 _ HL2.out).mono ?_; rintro e w3 ⟨q0, q1, q2, rfl, hI3, hb3⟩
  have HP1 := Lib.hid (show PartOk w3 ⟨p0, p1, p2, A, c, l, 0, lba⟩ from ⟨HI2.out.more hb3, (show (0 : Int) ≤ 0 ∧ (0 : Int) ≤ 4096 by omega), HBD.out.1, HFT.out, hn⟩)
  have HP2 := Lib.hid (show PartOk w3 ⟨q0, q1, q2, A, c, l, lba + n, 4096⟩ from ⟨hI3, HBD.out.2, (show (0 : Int) ≤ 4096 ∧ (4096 : Int) ≤ 4096 by omega), HFT.out, hn⟩)
  have hm := merged2 _ _ w3 HP1.out HP2.out (by
    unfold outs Part.out
    simp only [List.flatMap_cons, List.flatMap_nil, List.length_append, List.length_nil]
    have e1 := left_length 0 lba l
    have e2 := left_length (lba + n) 4096 l
    omega) (dropX l lba n) (by
    unfold outs Part.out dropX
    simp only [List.flatMap_cons, List.flatMap_nil, List.append_nil])
  simp only [Part.v] at hm
  have HMG := Lib.hid hm
  have HB3 := Lib.hid (HB2.out.trans (hb3.mono HB2.out.size))
  clear hI3 hb3 hm
  go_wp2_with (fail)
  refine HMG.out.mono ?_; rintro e w4 ⟨A', c', rfl, hx4, hb4⟩
  have HX4 := Lib.hid (hx4.mono HB3.out.size)
  have HB4 := Lib.hid (HB3.out.trans (hb4.mono HB3.out.size))
  clear hx4 hb4
  go_wp2_with (fail)
  go_ret2
  exact ⟨_, _, rfl, HX4.out, HB4.out⟩
set_option maxRecDepth 100000 in
set_option maxHeartbeats 4000000 in
theorem drop_no (A : Option Addr) (c : Nat) (l : List Ex) (lba n : Int) (w : World) (hl : Exts w A l) (hb : goodB l = false ∨ lba < 0 ∨ n < 0 ∨ 4096 - lba < n) (hw1 : -9223372036854775808 ≤ lba ∧ lba ≤ 9223372036854775807) (hn : l.length ≤ maxLen) :
    Calls Tryz.prog 137 #[.slice A l.length c, .int .i64 lba, .int .i64 n] w fun e w' => e = .returned (.tuple #[.slice none 0 0, .int .i64 70]) ∧ Below w.heap.size w w' := by
  have HL := Lib.hid hl
  clear hl
  have HGA := Lib.hid (fun v (h : Exts v A l) => good_any A c l v h hn)
  go_enter Tryz.func137, Tryz.ntmps137
  cases hg : goodB l with
  | false =>
    rw [hg] at HGA
    clear hg hb
    go_wp2_with (fail)
    refine (HGA.out _ HL.out).mono ?_; rintro e w1 ⟨rfl, hb1⟩
    have HB1 := Lib.hid hb1
    clear hb1
    have hnt := not_false w1
    go_wp2_with (fail)
    go_ret2
    exact ⟨rfl, HB1.out⟩
  | true =>
    rw [hg] at HGA hb
    clear hg
    go_wp2_with (fail)
    refine (HGA.out _ HL.out).mono ?_; rintro e w1 ⟨rfl, hb1⟩
    have HB1 := Lib.hid hb1
    clear hb1
    have hnt := not_true w1
    by_cases g1 : lba < 0
    · clear hb
      go_wp2_with (fail)
      go_ret2
      exact ⟨rfl, HB1.out⟩
    · by_cases g2 : n < 0
      · clear hb
        go_wp2_with (fail)
        go_ret2
        exact ⟨rfl, HB1.out⟩
      · have g3 : n > 4096 - lba := by
          rcases hb with h | h | h | h
          · cases h
          · omega
          · omega
          · omega
        have e1 : IntKind.i64.wrap (4096 - lba) = 4096 - lba := i64w _ (by omega)
        clear hb
        go_wp2_with (fail)
        go_ret2
        exact ⟨rfl, HB1.out⟩
end Go.Proofs.YtglfjlbhjaemgaaGreatDoor.Ext
namespace Go.Proofs.YtglfjlbhjaemgaaGreatDoor.Ext
/-- Where a block is stored. -/
def whereX : List Ex → Int → Option Int
  | [], _ => none
  | x :: t, n => if x.l ≤ n ∧ n < x.l + x.b then some (x.a + n - x.l) else whereX t n
/-- In ascending order, from s to e. -/
def AscTo : Int → Int → List Ex → Prop
  | s, e, [] => s ≤ e
  | s, e, x :: t => s ≤ x.l ∧ x.Fits ∧ AscTo (x.l + x.b) e t
theorem AscTo.le : ∀ {l : List Ex} {s e : Int}, AscTo s e l → s ≤ e
  | [], _, _, h => h
  | x :: t, _, _, h => by have := AscTo.le h.2.2; have := h.1; have := h.2.1; unfold Ex.Fits at this; omega
theorem AscTo.app : ∀ {a b : List Ex} {s m e : Int}, AscTo s m a → AscTo m e b → AscTo s e (a ++ b)
  | [], [], _, _, _, h, k => by have h : _ ≤ _ := h; have k : _ ≤ _ := k; show _ ≤ _; omega
  | [], y :: b, _, _, _, h, k => ⟨by have h : _ ≤ _ := h; have := k.1; omega, k.2.1, k.2.2⟩
  | x :: a, b, _, _, _, h, k => ⟨h.1, h.2.1, AscTo.app h.2.2 k⟩
theorem AscTo.none_below : ∀ {l : List Ex} {s e : Int}, AscTo s e l → ∀ n, n < s → whereX l n = none
  | [], _, _, _, _, _ => rfl
  | x :: t, _, _, h, n, hn => by
    unfold whereX
    have hf := h.2.1
    unfold Ex.Fits at hf
    have := h.1
    rw [if_neg (by omega)]
    exact AscTo.none_below h.2.2 n (by omega)
theorem AscTo.none_above : ∀ {l : List Ex} {s e : Int}, AscTo s e l → ∀ n, e ≤ n → whereX l n = none
  | [], _, _, _, _, _ => rfl
  | x :: t, _, _, h, n, hn => by
    unfold whereX
    have := AscTo.le h.2.2
    rw [if_neg (by omega)]
    exact AscTo.none_above h.2.2 n hn
theorem AscTo.fits : ∀ {l : List Ex} {s e : Int}, AscTo s e l → ∀ x ∈ l, x.Fits
  | x :: t, _, _, h, y, hy => by
    rcases List.mem_cons.1 hy with rfl | hy
    · exact h.2.1
    · exact AscTo.fits h.2.2 y hy
theorem may_le {x y : Ex} (h : mayB x y = true) : x.l + x.b ≤ y.l := by
  unfold mayB at h
  rw [Bool.and_eq_true] at h
  have := of_decide_eq_true h.1
  omega
theorem chain_cons {p : Option Ex} {x : Ex} {t : List Ex} (h : chainB p (x :: t) = true) : x.Fits ∧ (∀ q, p = some q → mayB q x = true) ∧ chainB (some x) t = true := by
  unfold chainB at h
  rw [Bool.and_eq_true, Bool.and_eq_true] at h
  refine ⟨(fitsB_iff x).1 h.1, fun q hq => ?_, h.2.2⟩
  subst hq
  exact h.2.1
theorem chain_some : ∀ {t : List Ex} {q : Ex}, q.Fits → chainB (some q) t = true → AscTo (q.l + q.b) 4096 t
  | [], q, hq, _ => by unfold Ex.Fits at hq; show _ ≤ _; omega
  | x :: t, q, _, h => by
    obtain ⟨h1, h2, h3⟩ := chain_cons h
    exact ⟨may_le (h2 q rfl), h1, chain_some h1 h3⟩
theorem chain_asc {l : List Ex} (h : chainB none l = true) : AscTo 0 4096 l := by
  cases l with
  | nil => show (0 : Int) ≤ 4096; omega
  | cons x t =>
    obtain ⟨h1, _, h3⟩ := chain_cons h
    exact ⟨h1.1, h1, chain_some h1 h3⟩
theorem good_asc {l : List Ex} (h : goodB l = true) : AscTo 0 4096 l := chain_asc h
theorem where_app : ∀ (a b : List Ex) (n : Int), whereX (a ++ b) n = (whereX a n).or (whereX b n)
  | [], b, n => rfl
  | x :: a, b, n => by
    show (if x.l ≤ n ∧ n < x.l + x.b then some (x.a + n - x.l) else whereX (a ++ b) n) = (if x.l ≤ n ∧ n < x.l + x.b then some (x.a + n - x.l) else whereX a n).or (whereX b n)
    by_cases h : x.l ≤ n ∧ n < x.l + x.b
    · rw [if_pos h, if_pos h]; rfl
    · rw [if_neg h, if_neg h]; exact where_app a b n
/-- What is left between two blocks is stored where it was. -/
theorem where_left (lo hi : Int) : ∀ (l : List Ex) (n : Int), whereX (leftX lo hi l) n = if lo ≤ n ∧ n < hi then whereX l n else none
  | [], n => by simp [leftX, whereX]
  | x :: t, n => by
    have ih := where_left lo hi t n
    have e : leftX lo hi (x :: t) = (cutX lo hi x).toList ++ leftX lo hi t := by
      unfold leftX
      rw [List.filterMap_cons]
      cases cutX lo hi x <;> rfl
    rw [e, where_app, ih]
    unfold cutX
    obtain ⟨F1, hF1⟩ : ∃ F1, (if x.l < lo then lo else x.l) = F1 := ⟨_, rfl⟩
    obtain ⟨F2, hF2⟩ : ∃ F2, (if x.l + x.b ≤ hi then x.l + x.b else hi) = F2 := ⟨_, rfl⟩
    rw [hF1, hF2]
    have g1 : (x.l < lo ∧ F1 = lo) ∨ (lo ≤ x.l ∧ F1 = x.l) := by rw [← hF1]; split <;> omega
    have g2 : (x.l + x.b ≤ hi ∧ F2 = x.l + x.b) ∨ (hi < x.l + x.b ∧ F2 = hi) := by rw [← hF2]; split <;> omega
    clear hF1 hF2
    by_cases h1 : F1 < F2
    · rw [if_pos h1]
      simp only [Option.toList_some, whereX]
      by_cases h2 : x.l ≤ n ∧ n < x.l + x.b ∧ lo ≤ n ∧ n < hi
      · rw [if_pos (by omega), if_pos (by omega), if_pos (by omega), if_pos (by omega)]
        show some _ = some _
        exact congrArg some (by omega)
      · rw [if_neg (by omega)]
        simp only [Option.none_or]
        by_cases h3 : lo ≤ n ∧ n < hi
        · rw [if_pos h3, if_pos h3, if_neg (by omega)]
        · rw [if_neg h3, if_neg h3]
    · rw [if_neg h1]
      simp only [Option.toList_none, whereX, Option.none_or]
      by_cases h3 : lo ≤ n ∧ n < hi
      · rw [if_pos h3, if_pos h3, if_neg (by omega)]
      · rw [if_neg h3, if_neg h3]
theorem asc_left (lo hi : Int) (h0 : 0 ≤ lo) : ∀ (l : List Ex) (s e m : Int), AscTo s e l → m ≤ hi → (m ≤ s ∨ m ≤ lo) → AscTo m hi (leftX lo hi l)
  | [], _, _, m, _, h1, _ => h1
  | x :: t, s, e, m, h, h1, h2 => by
    have hh := h.1
    have hx := h.2.1
    unfold Ex.Fits at hx
    have e1 : leftX lo hi (x :: t) = (cutX lo hi x).toList ++ leftX lo hi t := by
      unfold leftX
      rw [List.filterMap_cons]
      cases cutX lo hi x <;> rfl
    rw [e1]
    cases hc : cutX lo hi x with
    | none => exact asc_left lo hi h0 t (x.l + x.b) e m h.2.2 h1 (by omega)
    | some y =>
      have hy := cut_fits h.2.1 h0 hc
      unfold cutX at hc
      obtain ⟨F1, hF1⟩ : ∃ F1, (if x.l < lo then lo else x.l) = F1 := ⟨_, rfl⟩
      obtain ⟨F2, hF2⟩ : ∃ F2, (if x.l + x.b ≤ hi then x.l + x.b else hi) = F2 := ⟨_, rfl⟩
      rw [hF1, hF2] at hc
      by_cases hq : F1 < F2
      · rw [if_pos hq] at hc
        injection hc with hc
        subst hc
        have g1 : x.l ≤ F1 ∧ lo ≤ F1 := by rw [← hF1]; split <;> omega
        have g2 : F2 ≤ hi ∧ F2 ≤ x.l + x.b := by rw [← hF2]; split <;> omega
        refine ⟨by simp only; omega, hy, ?_⟩
        have := asc_left lo hi h0 t (x.l + x.b) e F2 h.2.2 g2.1 (.inl g2.2)
        show AscTo (F1 + (F2 - F1)) hi _
        rw [show F1 + (F2 - F1) = F2 by omega]
        exact this
      · rw [if_neg hq] at hc
        cases hc
theorem chain_snoc : ∀ (r : List Ex) (p : Option Ex) (x : Ex), chainB p (r ++ [x]) = (chainB p r && (fitsB x && (match (match r.getLast? with | none => p | some y => some y) with | none => true | some q => mayB q x)))
  | [], p, x => by
    show chainB p [x] = _
    cases p <;> simp [chainB]
  | y :: r, p, x => by
    show chainB p (y :: (r ++ [x])) = _
    unfold chainB
    rw [chain_snoc r (some y) x]
    have e : (match (y :: r).getLast? with | none => p | some z => some z) = (match r.getLast? with | none => some y | some z => some z) := by
      cases r with
      | nil => rfl
      | cons z r => simp [List.getLast?_cons]
    rw [e]
    simp only [Bool.and_assoc]
/-- A good list that ends at e, or ahead of it. -/
def GoodTo (r : List Ex) (e : Int) : Prop := chainB none r = true ∧ ∀ y, r.getLast? = some y → y.l + y.b ≤ e
theorem where_one (y : Ex) (n : Int) : whereX [y] n = if y.l ≤ n ∧ n < y.l + y.b then some (y.a + n - y.l) else none := rfl
theorem goodTo_push {r : List Ex} {e : Int} {x : Ex} (h : GoodTo r e) (he : e ≤ x.l) (hx : x.Fits) : GoodTo (pushX r x) (x.l + x.b) ∧ ∀ n, whereX (pushX r x) n = (whereX r n).or (whereX [x] n) := by
  have hxb := (fitsB_iff x).2 hx
  by_cases hr : r = []
  · subst hr
    rw [push_nil]
    refine ⟨⟨?_, fun y hy => ?_⟩, fun n => rfl⟩
    · show (fitsB x && (true && true)) = true
      rw [hxb]; rfl
    · simp at hy; subst hy; exact Int.le_refl _
  · obtain ⟨r', y, rfl⟩ := split_last hr
    rw [push_last]
    have hye : y.l + y.b ≤ e := h.2 y (by simp)
    have hch := h.1
    rw [chain_snoc] at hch
    have hyf : y.Fits := by
      rw [Bool.and_eq_true, Bool.and_eq_true] at hch
      exact (fitsB_iff y).1 hch.2.1
    unfold Ex.Fits at hx hyf
    by_cases hg : goesB y x = true
    · have hgo := of_decide_eq_true (show decide (x.l = y.l + y.b ∧ x.a = y.a + y.b) = true from hg)
      rw [if_pos hg]
      refine ⟨⟨?_, fun z hz => ?_⟩, fun n => ?_⟩
      · rw [chain_snoc]
        rw [Bool.and_eq_true, Bool.and_eq_true] at hch ⊢
        exact ⟨hch.1, (fitsB_iff _).2 ⟨hyf.1, hyf.2.1, by simp only; omega, by simp only; omega, by simp only; omega⟩, hch.2.2⟩
      · simp at hz
        subst hz
        simp only
        omega
      · rw [where_app, where_app]
        cases whereX r' n with
        | some v => rfl
        | none =>
          simp only [Option.none_or, where_one]
          by_cases h1 : y.l ≤ n ∧ n < y.l + y.b
          · rw [if_pos (by omega), if_pos h1]; rfl
          · rw [if_neg h1, Option.none_or]
            by_cases h2 : x.l ≤ n ∧ n < x.l + x.b
            · rw [if_pos (by omega), if_pos h2]
              exact congrArg some (by omega)
            · rw [if_neg (by omega), if_neg h2]
    · rw [if_neg hg]
      have hgf : goesB y x = false := by simpa using hg
      refine ⟨⟨?_, fun z hz => ?_⟩, fun n => where_app _ _ n⟩
      · rw [chain_snoc, h.1, hxb]
        have e1 : (r' ++ [y]).getLast? = some y := by simp
        rw [e1]
        show (true && (true && mayB y x)) = true
        unfold mayB
        rw [hgf, decide_eq_true (show x.l ≥ y.l + y.b by omega)]
        rfl
      · simp at hz
        subst hz
        exact Int.le_refl _
theorem goodTo_mrg : ∀ (q r : List Ex) (s e : Int), GoodTo r s → AscTo s e q → GoodTo (mrgX r q) e ∧ ∀ n, whereX (mrgX r q) n = (whereX r n).or (whereX q n)
  | [], r, s, e, h, ha => ⟨⟨h.1, fun y hy => by have := h.2 y hy; have ha : s ≤ e := ha; show y.l + y.b ≤ e; omega⟩, fun n => by show whereX r n = (whereX r n).or none; cases whereX r n <;> rfl⟩
  | x :: q, r, s, e, h, ha => by
    obtain ⟨h1, h2⟩ := goodTo_push h ha.1 ha.2.1
    obtain ⟨h3, h4⟩ := goodTo_mrg q (pushX r x) (x.l + x.b) e h1 ha.2.2
    refine ⟨h3, fun n => ?_⟩
    show whereX (mrgX (pushX r x) q) n = _
    rw [h4, h2, where_one]
    show _ = (whereX r n).or (if x.l ≤ n ∧ n < x.l + x.b then some (x.a + n - x.l) else whereX q n)
    cases whereX r n with
    | some v => rfl
    | none =>
      simp only [Option.none_or]
      by_cases h5 : x.l ≤ n ∧ n < x.l + x.b
      · rw [if_pos h5, if_pos h5]; rfl
      · rw [if_neg h5, if_neg h5]; rfl
theorem mrg_good {q : List Ex} {s e : Int} (h : AscTo s e q) : goodB (mrgX [] q) = true ∧ ∀ n, whereX (mrgX [] q) n = whereX q n := by
  obtain ⟨h1, h2⟩ := goodTo_mrg q [] s e ⟨rfl, fun y hy => by cases hy⟩ h
  exact ⟨h1.1, fun n => by rw [h2]; rfl⟩
theorem AscTo.up {l : List Ex} : ∀ {s e f : Int}, AscTo s e l → e ≤ f → AscTo s f l := by
  induction l with
  | nil => intro s e f h hf; have h : s ≤ e := h; show s ≤ f; omega
  | cons x t ih => intro s e f h hf; exact ⟨h.1, h.2.1, ih h.2.2 hf⟩
/-- What Set makes. -/
theorem set_good {l : List Ex} {x : Ex} (hl : goodB l = true) (hx : x.Fits) : goodB (setX l x) = true ∧ ∀ n, whereX (setX l x) n = if x.l ≤ n ∧ n < x.l + x.b then some (x.a + n - x.l) else whereX l n := by
  have ha := good_asc hl
  have hx' := hx
  unfold Ex.Fits at hx'
  have a1 := asc_left 0 x.l (by omega) l 0 4096 0 ha (by omega) (.inl (by omega))
  have a2 := asc_left 0 4096 (by omega) [x] x.l 4096 x.l ⟨by omega, hx, by show _ ≤ _; omega⟩ (by omega) (.inl (by omega))
  have e2 : leftX 0 4096 [x] = [x] := by
    have hc : cutX 0 4096 x = some x := by
      unfold cutX
      rw [if_neg (by omega : ¬ x.l < 0), if_pos (by omega : x.l + x.b ≤ 4096), if_pos (by omega)]
      exact congrArg some (Ex.ext rfl (by simp only; omega) (by simp only; omega))
    simp [leftX, hc]
  have a3 := asc_left (x.l + x.b) 4096 (by omega) l 0 4096 (x.l + x.b) ha (by omega) (.inr (by omega))
  rw [e2] at a2
  have a23 : AscTo x.l 4096 ([x] ++ leftX (x.l + x.b) 4096 l) := ⟨by omega, hx, a3⟩
  obtain ⟨h1, h2⟩ := mrg_good (a1.app a23)
  unfold setX
  rw [e2]
  refine ⟨h1, fun n => ?_⟩
  rw [h2, where_app, where_app, where_left, where_left, where_one]
  by_cases c1 : x.l ≤ n ∧ n < x.l + x.b
  · rw [if_pos c1, if_pos c1, if_neg (by omega)]; rfl
  · rw [if_neg c1, if_neg c1]
    by_cases c2 : 0 ≤ n ∧ n < x.l
    · rw [if_pos c2, if_neg (by omega)]
      cases whereX l n <;> rfl
    · rw [if_neg c2]
      by_cases c3 : x.l + x.b ≤ n ∧ n < 4096
      · rw [if_pos c3]; rfl
      · rw [if_neg c3]
        show none = whereX l n
        by_cases c4 : n < 0
        · rw [ha.none_below n c4]
        · rw [ha.none_above n (by omega)]
/-- What Drop makes. -/
theorem drop_good {l : List Ex} {lba k : Int} (hl : goodB l = true) (h1 : 0 ≤ lba) (h2 : 0 ≤ k) (h3 : k ≤ 4096 - lba) : goodB (dropX l lba k) = true ∧ ∀ n, whereX (dropX l lba k) n = if lba ≤ n ∧ n < lba + k then none else whereX l n := by
  have ha := good_asc hl
  have a1 := asc_left 0 lba (by omega) l 0 4096 0 ha (by omega) (.inl (by omega))
  have a3 := asc_left (lba + k) 4096 (by omega) l 0 4096 (lba + k) ha (by omega) (.inr (by omega))
  have a1' : AscTo 0 (lba + k) (leftX 0 lba l) := a1.up (by omega)
  obtain ⟨g1, g2⟩ := mrg_good (a1'.app a3)
  unfold dropX
  refine ⟨g1, fun n => ?_⟩
  rw [g2, where_app, where_left, where_left]
  by_cases c1 : lba ≤ n ∧ n < lba + k
  · rw [if_pos c1, if_neg (by omega), if_neg (by omega)]; rfl
  · rw [if_neg c1]
    by_cases c2 : 0 ≤ n ∧ n < lba
    · rw [if_pos c2, if_neg (by omega)]
      cases whereX l n <;> rfl
    · rw [if_neg c2]
      by_cases c3 : lba + k ≤ n ∧ n < 4096
      · rw [if_pos c3]; rfl
      · rw [if_neg c3]
        show none = whereX l n
        by_cases c4 : n < 0
        · rw [ha.none_below n c4]
        · rw [ha.none_above n (by omega)]
theorem asc_length : ∀ {l : List Ex} {s e : Int}, AscTo s e l → (l.length : Int) ≤ e - s
  | [], s, e, h => by have h : s ≤ e := h; simp only [List.length_nil]; omega
  | x :: t, s, e, h => by
    have := asc_length h.2.2
    have h1 := h.1
    have h2 := h.2.1
    unfold Ex.Fits at h2
    simp only [List.length_cons]
    omega
theorem good_length {l : List Ex} (h : goodB l = true) : l.length ≤ 4096 := by
  have := asc_length (good_asc h)
  omega
end Go.Proofs.YtglfjlbhjaemgaaGreatDoor.Ext
namespace Go.Proofs.YtglfjlbhjaemgaaGreatDoor.Ext
open Go.RowKit
def sumB : List Ex → Int
  | [] => 0
  | x :: t => x.b + sumB t
theorem sumB_snoc (l : List Ex) (x : Ex) : sumB (l ++ [x]) = sumB l + x.b := by
  induction l with
  | nil => show x.b + 0 = 0 + x.b; omega
  | cons y t ih => show y.b + sumB (t ++ [x]) = y.b + sumB t + x.b; rw [ih]; omega
theorem sumB_next {l : List Ex} {k : Nat} {x : Ex} (h : l[k]? = some x) : sumB (l.take (k + 1)) = sumB (l.take k) + x.b := by
  rw [List.take_add_one, h, Option.toList_some, sumB_snoc]
theorem sumB_small {l : List Ex} (h : ∀ x ∈ l, x.Fits) : 0 ≤ sumB l ∧ sumB l ≤ 4096 * (l.length : Int) := by
  induction l with
  | nil => simp [sumB]
  | cons y t ih =>
    have h1 := h y (by simp)
    have h2 := ih (fun x hx => h x (by simp [hx]))
    unfold Ex.Fits at h1
    simp only [sumB, List.length_cons]
    omega
def usedX (l : List Ex) : Int := if goodB l then sumB l else 0
set_option maxRecDepth 100000 in
set_option maxHeartbeats 2000000 in
theorem used_any (A : Option Addr) (c : Nat) (l : List Ex) (w : World) (hl : Exts w A l) (hn : l.length ≤ 100000) :
    Calls Tryz.prog 80 #[.slice A l.length c] w fun e w' => e = .returned (.int .i64 (usedX l)) ∧ Below w.heap.size w w' := by
  have HL := Lib.hid hl
  clear hl
  have HGA := Lib.hid (fun v (h : Exts v A l) => good_any A c l v h (by unfold maxLen; omega))
  unfold usedX
  go_enter Tryz.func80, Tryz.ntmps80
  cases hg : goodB l with
  | false =>
    rw [hg] at HGA
    clear hg
    rw [if_neg (by simp)]
    go_wp2_with (fail)
    refine (HGA.out _ HL.out).mono ?_; rintro e w1 ⟨rfl, hb1⟩
    have HB1 := Lib.hid hb1
    clear hb1
    have hnt := not_false w1
    go_wp2_with (fail)
    go_ret
    exact ⟨rfl, HB1.out⟩
  | true =>
    have HF := Lib.hid (good_asc hg).fits
    rw [hg] at HGA
    clear hg
    rw [if_pos rfl]
    go_wp2_with (fail)
    refine (HGA.out _ HL.out).mono ?_; rintro e w1 ⟨rfl, hb1⟩
    have HB1 := Lib.hid hb1
    have HL1 := Lib.hid (HL.out.below hb1)
    clear hb1
    have hnt := not_true w1
    go_wp2_with (fail)
    clear hnt
    go_loopw [11, 3] (fun i s wr => ∃ k : Nat, i = .int .i64 k ∧ k ≤ l.length ∧ s = .int .i64 (sumB (l.take k)) ∧ Below w.heap.size w wr) (fun i _ _ => l.length - (intOf i).toNat)
    case atStart => exact ⟨0, rfl, Nat.zero_le _, rfl, HB1.out⟩
    case round =>
      obtain ⟨k, rfl, hk, rfl, hb⟩ := hrel
      have HB := Lib.hid hb; clear hb
      by_cases hlt : k < l.length
      · have hki : (k : Int) < l.length := by omega
        obtain ⟨b, o, x, rfl, hat, wf, c0, c1, c2⟩ := (HL.out.kept (fun hn a ha => HB.out.block _ (HL.out.lt hn a ha)) : Exts wr A l).at_ hlt
        have HS := Lib.hid (sumB_next hat)
        have hf := HF.out x (List.mem_of_getElem? hat)
        have hs := sumB_small (l := l.take k) (fun y hy => HF.out y (List.mem_of_mem_take hy))
        rw [List.length_take, Nat.min_eq_left hk] at hs
        unfold Ex.Fits at hf
        have hw : IntKind.i64.wrap (sumB (l.take k) + x.b) = sumB (l.take k) + x.b := i64w _ (by omega)
        clear hat wf hf hs
        generalize sumB (l.take k) = sk at *
        go_wp2_with (fail)
        go_roundw
        case rel => exact ⟨k + 1, by go_num, by omega, by rw [HS.out], HB.out.alloc HB.out.size _⟩
        case measure => simp [intOf]; omega
      · obtain rfl : k = l.length := by omega
        rw [List.take_length]
        go_wp2
        go_ret
        exact ⟨rfl, HB.out⟩
end Go.Proofs.YtglfjlbhjaemgaaGreatDoor.Ext
namespace Go.Proofs.YtglfjlbhjaemgaaGreatDoor.Ext
open Go.RowKit
theorem where_cons (x : Ex) (t : List Ex) (n : Int) : whereX (x :: t) n = if x.l ≤ n ∧ n < x.l + x.b then some (x.a + n - x.l) else whereX t n := rfl
/-- The blocks one by one. -/
def ones (m : Nat → Int) : Nat → List Ex
  | 0 => []
  | k + 1 => ones m k ++ (if m k = 0 then [] else [⟨k, 1, m k - 1⟩])
end Go.Proofs.YtglfjlbhjaemgaaGreatDoor.Ext
namespace Go.Proofs.YtglfjlbhjaemgaaGreatDoor.Ext
open Go.RowKit
theorem Exts.under {w v : World} {A : Option Addr} {l : List Ex} (h : Exts w A l) (hb : Below w.heap.size w v) : Exts v A l := h.below hb
end Go.Proofs.YtglfjlbhjaemgaaGreatDoor.Ext
namespace Go.Proofs.YtglfjlbhjaemgaaGreatDoor.Ext
open Go.RowKit
theorem one_box (w : World) (x : Ex) : ∀ v, v = w.alloc (.cells #[.int .i64 x.l, .int .i64 x.b, .int .i64 x.a] 158) → Blk v w.heap.size 158 (exC x) ∧ Below w.heap.size w v := by
  rintro v rfl
  exact ⟨Blk.new w _ _, (Below.refl _ _).alloc (Nat.le_refl _) _⟩
end Go.Proofs.YtglfjlbhjaemgaaGreatDoor.Ext
namespace Go.Proofs.YtglfjlbhjaemgaaGreatDoor.Ext
open Go.RowKit
def setR (l : List Ex) (x : Ex) : List Ex × Int := if goodB l && fitsB x then (setX l x, 0) else ([], 70)
def dropR (l : List Ex) (lba n : Int) : List Ex × Int := if goodB l && decide (0 ≤ lba ∧ 0 ≤ n ∧ n ≤ 4096 - lba) then (dropX l lba n, 0) else ([], 70)
theorem set_any (A : Option Addr) (c : Nat) (l : List Ex) (x : Ex) (w : World) (hl : Exts w A l) (hx : x.Wf) (hn : l.length ≤ maxLen) :
    Calls Tryz.prog 163 #[.slice A l.length c, exV x] w fun e w' => ∃ A' c', e = .returned (.tuple #[.slice A' (setR l x).1.length c', .int .i64 (setR l x).2]) ∧ ExtsF w.heap.size w' A' (setR l x).1 ∧ Below w.heap.size w w' := by
  unfold setR
  cases hg : goodB l with
  | false =>
    refine (set_no1 A c l x w hl hg hx hn).mono ?_
    rintro e w' ⟨rfl, hb⟩
    exact ⟨none, 0, rfl, ExtsF.nil _ _ _, hb⟩
  | true =>
    cases hf : fitsB x with
    | false =>
      refine (set_no2 A c l x w hl hg hx hf hn).mono ?_
      rintro e w' ⟨rfl, hb⟩
      exact ⟨none, 0, rfl, ExtsF.nil _ _ _, hb⟩
    | true => exact set_ok A c l x w hl hg hx hf (Nat.le_trans (good_length hg) (by omega)) (good_asc hg).fits
theorem drop_any (A : Option Addr) (c : Nat) (l : List Ex) (lba n : Int) (w : World) (hl : Exts w A l) (hw1 : -9223372036854775808 ≤ lba ∧ lba ≤ 9223372036854775807) (hn : l.length ≤ maxLen) :
    Calls Tryz.prog 137 #[.slice A l.length c, .int .i64 lba, .int .i64 n] w fun e w' => ∃ A' c', e = .returned (.tuple #[.slice A' (dropR l lba n).1.length c', .int .i64 (dropR l lba n).2]) ∧ ExtsF w.heap.size w' A' (dropR l lba n).1 ∧ Below w.heap.size w w' := by
  unfold dropR
  by_cases h : (goodB l && decide (0 ≤ lba ∧ 0 ≤ n ∧ n ≤ 4096 - lba)) = true
  · rw [if_pos h]
    rw [Bool.and_eq_true] at h
    obtain ⟨h1, h2, h3⟩ := of_decide_eq_true h.2
    exact drop_ok A c l lba n w hl h.1 h1 h2 h3 (Nat.le_trans (good_length h.1) (by omega)) (good_asc h.1).fits
  · rw [if_neg h]
    refine (drop_no A c l lba n w hl ?_ hw1 hn).mono ?_
    · rw [Bool.and_eq_true] at h
      by_cases hg : goodB l = true
      · refine .inr ?_
        have : ¬ (0 ≤ lba ∧ 0 ≤ n ∧ n ≤ 4096 - lba) := fun hh => h ⟨hg, decide_eq_true hh⟩
        omega
      · exact .inl (by simpa using hg)
    · rintro e w' ⟨rfl, hb⟩
      exact ⟨none, 0, rfl, ExtsF.nil _ _ _, hb⟩
end Go.Proofs.YtglfjlbhjaemgaaGreatDoor.Ext
