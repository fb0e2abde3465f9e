/- The code's Set where it refuses; its Drop. -/
import Derived.Test.YtdopcliicjmjeaaExS
namespace Go.Proofs.Ytdopcliicjmjeaa
open Go.RowKit
theorem not_true (v : World) : Sem.run Try.prog (Op.unary UnOp.not (.bool true)) v = .ok (.bool false) v := rfl
theorem not_false (v : World) : Sem.run Try.prog (Op.unary UnOp.not (.bool false)) v = .ok (.bool true) v := rfl
set_option maxRecDepth 100000 in
set_option maxHeartbeats 4000000 in
theorem set_no1 (A : Option Addr) (c : Nat) (l : List Ex) (x : Ex) (w : World) (hl : Exts w A l) (hg : goodB l = false) (hx : x.Wf) (hn : l.length ≤ maxLen) :
    Calls Try.prog 19 #[.slice A l.length c, exV x] w fun e w' => e = .returned (.tuple #[.slice none 0 0, .int .i64 70]) ∧ Below w.heap.size w w' := by
  obtain ⟨hbx, hal, hb0⟩ := alone_new w x hx _ rfl
  have HL0 := Lib.hid hl; have HB0 := Lib.hid hb0; have HG := Lib.hid hg
  clear hl hbx hal hb0 hg
  unfold exV
  go_enter Try.func19, Try.ntmps19
  go_upto_region 2 with (fail)
  change Code.wp _ _ _ _ ((w.alloc (.cells #[.int .i64 x.l, .int .i64 x.b, .int .i64 x.a] 32)).alloc (.cells #[.int .i64 x.l, .int .i64 x.b, .int .i64 x.a] 32))
  generalize hw0 : (w.alloc (.cells #[.int .i64 x.l, .int .i64 x.b, .int .i64 x.a] 32)).alloc (.cells #[.int .i64 x.l, .int .i64 x.b, .int .i64 x.a] 32) = w0 at *
  clear hw0
  have HGA := Lib.hid (fun v (h : Exts v A l) => good_any A c l v h hn)
  rw [HG.out] at HGA
  have HL := Lib.hid ((HL0.out.kept (fun hn a ha => HB0.out.block _ (HL0.out.lt hn a ha)) : Exts w0 A l))
  go_wp2_with (fail)
  refine (HGA.out _ HL.out).mono ?_; rintro e w1 ⟨rfl, hb1⟩
  have HB1 := Lib.hid (HB0.out.trans (hb1.mono HB0.out.size))
  clear hb1
  have hnt := not_false w1
  go_wp2_with (fail)
  go_ret2
  exact ⟨rfl, HB1.out⟩
set_option maxRecDepth 100000 in
set_option maxHeartbeats 4000000 in
theorem set_no2 (A : Option Addr) (c : Nat) (l : List Ex) (x : Ex) (w : World) (hl : Exts w A l) (hg : goodB l = true) (hx : x.Wf) (hf : fitsB x = false) (hn : l.length ≤ maxLen) :
    Calls Try.prog 19 #[.slice A l.length c, exV x] w fun e w' => e = .returned (.tuple #[.slice none 0 0, .int .i64 70]) ∧ Below w.heap.size w w' := by
  obtain ⟨hbx, hal, hb0⟩ := alone_new w x hx _ rfl
  have hg1 : goodB [x] = false := by unfold goodB chainB; rw [hf]; rfl
  have HL0 := Lib.hid hl; have HB0 := Lib.hid hb0; have HG := Lib.hid hg; have HA := Lib.hid hal; have HG1 := Lib.hid hg1
  clear hl hbx hal hb0 hg hg1 hf
  unfold exV
  go_enter Try.func19, Try.ntmps19
  go_upto_region 2 with (fail)
  change Code.wp _ _ _ _ ((w.alloc (.cells #[.int .i64 x.l, .int .i64 x.b, .int .i64 x.a] 32)).alloc (.cells #[.int .i64 x.l, .int .i64 x.b, .int .i64 x.a] 32))
  generalize hw0 : (w.alloc (.cells #[.int .i64 x.l, .int .i64 x.b, .int .i64 x.a] 32)).alloc (.cells #[.int .i64 x.l, .int .i64 x.b, .int .i64 x.a] 32) = w0 at *
  clear hw0
  have HGA := Lib.hid (fun v (h : Exts v A l) => good_any A c l v h hn)
  rw [HG.out] at HGA
  have HGB := Lib.hid (fun v (h : Exts v (some ⟨w.heap.size + 1, 0, none⟩) [x]) => good_any (some ⟨w.heap.size + 1, 0, none⟩) 1 [x] v h (by unfold maxLen; simp))
  rw [HG1.out] at HGB
  have HL := Lib.hid ((HL0.out.kept (fun hn a ha => HB0.out.block _ (HL0.out.lt hn a ha)) : Exts w0 A l))
  go_wp2_with (fail)
  refine (HGA.out _ HL.out).mono ?_; rintro e w1 ⟨rfl, hb1⟩
  have HB1 := Lib.hid (HB0.out.trans (hb1.mono HB0.out.size))
  have HA1 := Lib.hid (HA.out.below hb1)
  clear hb1
  have hnt := not_true w1
  go_wp2_with (fail)
  refine (HGB.out _ HA1.out).mono ?_; rintro e w2 ⟨rfl, hb2⟩
  have HB2 := Lib.hid (HB1.out.trans (hb2.mono HB1.out.size))
  clear hb2 hnt
  have hnt := not_false w2
  go_wp2_with (fail)
  go_ret2
  exact ⟨rfl, HB2.out⟩
set_option maxRecDepth 100000 in
set_option maxHeartbeats 4000000 in
theorem drop_ok (A : Option Addr) (c : Nat) (l : List Ex) (lba n : Int) (w : World) (hl : Exts w A l) (hg : goodB l = true) (h1 : 0 ≤ lba) (h2 : 0 ≤ n) (h3 : n ≤ 4096 - lba) (hn : l.length ≤ 100000) (hfit : ∀ y ∈ l, y.Fits) :
    Calls Try.prog 21 #[.slice A l.length c, .int .i64 lba, .int .i64 n] w fun e w' => ∃ A' c', e = .returned (.tuple #[.slice A' (dropX l lba n).length c', .int .i64 0]) ∧ Exts w' A' (dropX l lba n) ∧ Below w.heap.size w w' := by
  have HL := Lib.hid hl; have HG := Lib.hid hg; have HFT := Lib.hid hfit
  clear hl hg hfit
  have HGA := Lib.hid (fun v (h : Exts v A l) => good_any A c l v h (by unfold maxLen; omega))
  rw [HG.out] at HGA
  have g1 : ¬ lba < 0 := by omega
  have g2 : ¬ n < 0 := by omega
  have g3 : ¬ n > 4096 - lba := by omega
  have e1 : IntKind.i64.wrap (4096 - lba) = 4096 - lba := i64w _ (by omega)
  have e2 : IntKind.i64.wrap (lba + n) = lba + n := i64w _ (by omega)
  have HBD := Lib.hid (show (0 ≤ lba ∧ lba ≤ 4096) ∧ (0 ≤ lba + n ∧ lba + n ≤ 4096) by omega)
  clear h1 h2 h3
  go_enter Try.func21, Try.ntmps21
  go_wp2_with (fail)
  refine (HGA.out _ HL.out).mono ?_; rintro e w1 ⟨rfl, hb1⟩
  have HL1 := Lib.hid (HL.out.below hb1)
  have HB1 := Lib.hid hb1
  clear hb1
  have hnt := not_true w1
  go_wp2_with (fail)
  refine (left_any A c l 0 lba _ HL1.out).mono ?_; rintro e w2 ⟨p0, p1, p2, rfl, hI2, hb2⟩
  have HI2 := Lib.hid hI2
  have HL2 := Lib.hid (HL1.out.below hb2)
  have HB2 := Lib.hid (HB1.out.trans (hb2.mono HB1.out.size))
  clear hI2 hb2 hnt
  go_wp2_with (fail)
  refine (left_any A c l (lba + n) 4096 _ HL2.out).mono ?_; rintro e w3 ⟨q0, q1, q2, rfl, hI3, hb3⟩
  have HP1 := Lib.hid (show PartOk w3 ⟨p0, p1, p2, A, c, l, 0, lba⟩ from ⟨HI2.out.more hb3, (show (0 : Int) ≤ 0 ∧ (0 : Int) ≤ 4096 by omega), HBD.out.1, HFT.out, hn⟩)
  have HP2 := Lib.hid (show PartOk w3 ⟨q0, q1, q2, A, c, l, lba + n, 4096⟩ from ⟨hI3, HBD.out.2, (show (0 : Int) ≤ 4096 ∧ (4096 : Int) ≤ 4096 by omega), HFT.out, hn⟩)
  have hm := merged2 _ _ w3 HP1.out HP2.out (by
    unfold outs Part.out
    simp only [List.flatMap_cons, List.flatMap_nil, List.length_append, List.length_nil]
    have e1 := left_length 0 lba l
    have e2 := left_length (lba + n) 4096 l
    omega) (dropX l lba n) (by
    unfold outs Part.out dropX
    simp only [List.flatMap_cons, List.flatMap_nil, List.append_nil])
  simp only [Part.v] at hm
  have HMG := Lib.hid hm
  have HB3 := Lib.hid (HB2.out.trans (hb3.mono HB2.out.size))
  clear hI3 hb3 hm
  go_wp2_with (fail)
  refine HMG.out.mono ?_; rintro e w4 ⟨A', c', rfl, hx4, hb4⟩
  have HX4 := Lib.hid hx4
  have HB4 := Lib.hid (HB3.out.trans (hb4.mono HB3.out.size))
  clear hx4 hb4
  go_wp2_with (fail)
  go_ret2
  exact ⟨_, _, rfl, HX4.out, HB4.out⟩
set_option maxRecDepth 100000 in
set_option maxHeartbeats 4000000 in
theorem drop_no (A : Option Addr) (c : Nat) (l : List Ex) (lba n : Int) (w : World) (hl : Exts w A l) (hb : goodB l = false ∨ lba < 0 ∨ n < 0 ∨ 4096 - lba < n) (hw1 : -9223372036854775808 ≤ lba ∧ lba ≤ 9223372036854775807) (hn : l.length ≤ maxLen) :
    Calls Try.prog 21 #[.slice A l.length c, .int .i64 lba, .int .i64 n] w fun e w' => e = .returned (.tuple #[.slice none 0 0, .int .i64 70]) ∧ Below w.heap.size w w' := by
  have HL := Lib.hid hl
  clear hl
  have HGA := Lib.hid (fun v (h : Exts v A l) => good_any A c l v h hn)
  go_enter Try.func21, Try.ntmps21
  cases hg : goodB l with
  | false =>
    rw [hg] at HGA
    clear hg hb
    go_wp2_with (fail)
    refine (HGA.out _ HL.out).mono ?_; rintro e w1 ⟨rfl, hb1⟩
    have HB1 := Lib.hid hb1
    clear hb1
    have hnt := not_false w1
    go_wp2_with (fail)
    go_ret2
    exact ⟨rfl, HB1.out⟩
  | true =>
    rw [hg] at HGA hb
    clear hg
    go_wp2_with (fail)
    refine (HGA.out _ HL.out).mono ?_; rintro e w1 ⟨rfl, hb1⟩
    have HB1 := Lib.hid hb1
    clear hb1
    have hnt := not_true w1
    by_cases g1 : lba < 0
    · clear hb
      go_wp2_with (fail)
      go_ret2
      exact ⟨rfl, HB1.out⟩
    · by_cases g2 : n < 0
      · clear hb
        go_wp2_with (fail)
        go_ret2
        exact ⟨rfl, HB1.out⟩
      · have g3 : n > 4096 - lba := by
          rcases hb with h | h | h | h
          · cases h
          · omega
          · omega
          · omega
        have e1 : IntKind.i64.wrap (4096 - lba) = 4096 - lba := i64w _ (by omega)
        clear hb
        go_wp2_with (fail)
        go_ret2
        exact ⟨rfl, HB1.out⟩
end Go.Proofs.Ytdopcliicjmjeaa
