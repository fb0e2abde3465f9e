/- The document's own reading of a text: the walk. -/
import Derived.Test.YthedonkjnfeajaaDoorImV
import Derived.Test.YthedonkjnfeajaaDoorImU
namespace Go.Proofs.YthedonkjnfeajaaDoor
open Go.RowKit
theorem dci_more {w0 w v : World} {T : Nat} {A A' : Option Addr} {c c' : Nat} {t t' : Tl} {l : List Rg} (h : DcI w0 T A c t w) (hg : w.grownBy v (Value.slice A t.rs.length c).ownBlock) (ho : Own v w0.heap.size A' c' l) (ht : t' = ⟨l, t.ty, t.ho, t.ge, t.ap⟩) :
    DcI w0 T A' c' t' (v.setCell ⟨T, 0, none⟩ (.slice A' l.length c')) := by
  subst ht
  have hf := h.far
  have ap : ∀ {b : Nat} {cs : Array Value} {ty : TypeId}, Blk w b ty cs → 48 ≠ ty → some b ≠ (Value.slice A t.rs.length c).ownBlock := fun hb hne e => own_apart h.own.1 hb hne e.symm
  have b3 := h.tb.grown hg (ap h.tb (by decide))
  have b4 := h.res.grown hg (ap h.res (by decide))
  have bel : Below w0.heap.size w0 v := h.bel.grown hg h.bel.size (fun k hk => (h.own.1.lt k hk).1)
  refine ⟨b4.far (p := ⟨T, 0, none⟩) (by show _ ≠ T; omega) _, b3.put 0 _, ?_, ?_, hf⟩
  · exact own_took ho b3 (by decide) (Only.setCell (p := ⟨T, 0, none⟩) (Only.refl (fun k => k = T) v) (.inl rfl) _)
  · exact bel.trans (Only.toBelow (Only.setCell (p := ⟨T, 0, none⟩) (Only.refl (fun k => k = T) v) (.inl rfl) _) bel.size (fun k hk => by omega))
theorem dci_put {w0 w : World} {T : Nat} {A : Option Addr} {c : Nat} {t t' : Tl} (h : DcI w0 T A c t w) (i : Nat) (u : Value) (he : (tlC A c t).setIfInBounds i u = tlC A c t') (hrs : t'.rs = t.rs) : DcI w0 T A c t' (w.setCell ⟨T, i, none⟩ u) := by
  have hf := h.far
  refine ⟨h.res.far (p := ⟨T, i, none⟩) (by show _ ≠ T; omega) u, by rw [← he]; exact h.tb.put i u, ?_, ?_, hf⟩
  · rw [hrs]
    exact own_took h.own h.tb (by decide) (Only.setCell (p := ⟨T, i, none⟩) (Only.refl (fun k => k = T) w) (.inl rfl) u)
  · exact h.bel.trans (Only.toBelow (Only.setCell (p := ⟨T, i, none⟩) (Only.refl (fun k => k = T) w) (.inl rfl) u) h.bel.size (fun k hk => by omega))
set_option maxRecDepth 100000 in
set_option maxHeartbeats 8000000 in
theorem refDecode_short (s : ByteArray) (w : World) (hs : s.size < 16) :
    Calls Tryd.prog 15 #[.string s] w fun e w' => ∃ A c, e = .returned (.tuple #[tlV A c (decT s), .int .i64 (decC s)]) ∧ Own w' w.heap.size A c (decT s).rs ∧ Below w.heap.size w w' := by
  obtain ⟨h1, h2, h3⟩ := dec_first w _ rfl
  have HF := Lib.hid (show imB s = false by
    cases h : imB s with
    | false => rfl
    | true => have := imB_long h; omega)
  have H : Hid (DcI w (w.heap.size + 1) none 0 tZ ((w.alloc (.cells tlZ 27)).alloc (.cells tlZ 27))) := Lib.hid ⟨h1.alloc _, by have := Blk.new (w.alloc (.cells tlZ 27)) 27 tlZ; rw [h3] at this; exact this, Own.nil _ _, h2.alloc h2.size _, Nat.lt_succ_self _⟩
  have HT := Lib.hid h1; have HB := Lib.hid h2
  have hsI : (s.size : Int) < 16 := by omega
  clear h1 h2 h3 hs H
  go_enter Tryd.func15, Tryd.ntmps15
  go_upto_region 1 with (fail)
  change Code.wp _ _ _ _ (w.alloc (.cells tlZ 27))
  generalize w.alloc (.cells tlZ 27) = w1 at *
  have r0 : w1.cell? ⟨w.heap.size, 0, none⟩ = some (.slice none 0 0) := HT.out.cell 0
  have r1 : w1.cell? ⟨w.heap.size, 1, none⟩ = some (.int .i64 0) := HT.out.cell 1
  have r2 : w1.cell? ⟨w.heap.size, 2, none⟩ = some (.string ⟨#[]⟩) := HT.out.cell 2
  have r3 : w1.cell? ⟨w.heap.size, 3, none⟩ = some (.int .u32 0) := HT.out.cell 3
  have r4 : w1.cell? ⟨w.heap.size, 4, none⟩ = some (.bool false) := HT.out.cell 4
  have z0 := HT.out.free 0
  have z1 := HT.out.free 1
  have z2 := HT.out.free 2
  have z3 := HT.out.free 3
  have z4 := HT.out.free 4
  go_wp2_with (fail)
  obtain ⟨hK, hO⟩ := box5 (A' := none) (c' := 0) (t' := tZ) HT.out none 0 tZ _ rfl
  refine bodyPost_ret_by (results_tl rfl _ _ w.heap.size _ _ _ _ _ rfl hK) rfl ?_
  rw [(decT_no HF.out).1, (decT_no HF.out).2]
  exact ⟨none, 0, rfl, Own.nil _ _, HB.out.trans (hO.toBelow HB.out.size (fun k hk => by omega))⟩
set_option maxRecDepth 100000 in
set_option maxHeartbeats 8000000 in
theorem refDecode_long (s : ByteArray) (w : World) (hs : s.size ≤ 100000) (h16 : 16 ≤ s.size) :
    Calls Tryd.prog 15 #[.string s] w fun e w' => ∃ A c, e = .returned (.tuple #[tlV A c (decT s), .int .i64 (decC s)]) ∧ Own w' w.heap.size A c (decT s).rs ∧ Below w.heap.size w w' := by
  obtain ⟨h1, h2, h3⟩ := dec_first w _ rfl
  have HT := Lib.hid h1; have HB := Lib.hid h2; have HZ := Lib.hid h3
  have HS := Lib.hid (show s.size ≤ maxLen from Nat.le_trans hs (by decide))
  obtain ⟨L, hL⟩ : ∃ L, L = lst s := ⟨_, rfl⟩
  have HL := Lib.hid hL
  have HLn := Lib.hid (show L.length = s.size by rw [hL, lst_len])
  have n8 := num_one (s := s) (k := 8) (by omega)
  have n9 := num_one (s := s) (k := 9) (by omega)
  have n10 := num_one (s := s) (k := 10) (by omega)
  have n11 := num_one (s := s) (k := 11) (by omega)
  rw [← hL] at n8 n9 n10 n11
  obtain ⟨g8, hg8⟩ : ∃ g, g = numL 1 (L.drop 8) := ⟨_, rfl⟩
  obtain ⟨g9, hg9⟩ : ∃ g, g = numL 1 (L.drop 9) := ⟨_, rfl⟩
  obtain ⟨g10, hg10⟩ : ∃ g, g = numL 1 (L.drop 10) := ⟨_, rfl⟩
  obtain ⟨N, hN⟩ : ∃ g, g = numL 1 (L.drop 11) := ⟨_, rfl⟩
  obtain ⟨g4, hg4⟩ : ∃ g, g = numL 4 (L.drop 4) := ⟨_, rfl⟩
  have b4 : g4 < 4294967296 := by rw [hg4]; exact numL_lt 4 _
  have b8 : g8 < 256 := by rw [hg8]; exact numL_lt 1 _
  have b9 : g9 < 256 := by rw [hg9]; exact numL_lt 1 _
  have bN : N < 256 := by rw [hN]; exact numL_lt 1 _
  have e4 : bigR s ((4 : Nat) : Int) ((4 : Nat) : Int) = g4 := by rw [num_big (by decide) (by decide) (by omega), ← hL, hg4]
  have o4 : okB s ((4 : Nat) : Int) ((4 : Nat) : Int) = true := okB_yes (by omega)
  obtain ⟨p10, hp10⟩ : ∃ b : Bool, ((g10 : Int) == 1) = b := ⟨_, rfl⟩
  have HP10 := Lib.hid (show decide (numL 1 (L.drop 10) = 1) = p10 by rw [← hp10, ← hg10, int_beq]; exact decide_eq_decide.2 (by omega))
  rw [← hg8] at n8; rw [← hg9] at n9; rw [← hg10] at n10; rw [← hN] at n11
  have HG8 := Lib.hid hg8; have HG9 := Lib.hid hg9; have HG4 := Lib.hid hg4; have HN := Lib.hid hN
  have HE4 := Lib.hid e4; have HO4 := Lib.hid o4
  have N9 := Lib.hid n9; have N11 := Lib.hid n11
  have h16I : ¬ (s.size : Int) < 16 := by omega
  have i8 : (8 : Int) < s.size := by omega
  have i9 : (9 : Int) < s.size := by omega
  have i10 : (10 : Int) < s.size := by omega
  have i11 : (11 : Int) < s.size := by omega
  have q4 : IntKind.u32.wrap (g4 : Int) = g4 := by rw [IntKind.wrap_u32]; omega
  have q8 : IntKind.i64.wrap (g8 : Int) = g8 := by rw [IntKind.wrap_i64]; omega
  clear h1 h2 h3 hL hg8 hg9 hg10 hN hg4 e4 o4 n9 n11
  go_enter Tryd.func15, Tryd.ntmps15
  go_upto_region 1 with (fail)
  change Code.wp _ _ _ _ (w.alloc (.cells tlZ 27))
  generalize w.alloc (.cells tlZ 27) = w1 at *
  go_wp2_with (fail)
  refine (refBig_any s 4 4 _ HS.out).mono ?_; rintro e w2 ⟨rfl, rfl⟩
  rw [show bigR s 4 4 = g4 from HE4.out, show okB s 4 4 = true from HO4.out]
  go_upto_region 4 with (fail)
  go_region
  rw [← n8, ← n10, hp10]
  have H := Lib.hid ((DcI.first (A := none) (c := 0) (t := ⟨[], g8, ⟨#[]⟩, g4, p10⟩) HT.out HB.out HZ.out (Own.nil _ _) (Below.refl _ _)).below (Below.refl _ _).drew)
  clear HT HB HZ n8 n10 hp10 q4 q8 i8 i10 HE4 HO4
  obtain ⟨T, hT⟩ : ∃ T, T = w1.heap.size := ⟨_, rfl⟩
  rw [← hT] at H
  rw [← hT]
  clear hT
  change Exit.then _ _ _ _ (w1.alloc (.cells (tlC none 0 ⟨[], g8, ⟨#[]⟩, g4, p10⟩) 27)).drew
  generalize (w1.alloc (.cells (tlC none 0 ⟨[], g8, ⟨#[]⟩, g4, p10⟩) 27)).drew = w2 at *
  have HA0 := Lib.hid (show ∃ A c, DcI w T A c ⟨(rdS (L.drop 12) 0).1, g8, ⟨#[]⟩, g4, p10⟩ w2 from ⟨none, 0, H.out⟩)
  clear H
  have n11 := N11.out.symm
  go_wp2_with (fail)
  go_loopw [7, 8] (fun a i wr => ∃ k : Nat, k ≤ N ∧ k ≤ 17 ∧ i = .int .i64 k ∧ a = .int .i64 (posL L k : Nat) ∧ posL L k ≤ s.size ∧ Hid (∃ A c, DcI w T A c ⟨(rdS (L.drop 12) k).1, g8, ⟨#[]⟩, g4, p10⟩ wr)) (fun _ i _ => 17 - (intOf i).toNat)
  case atStart => exact ⟨0, Nat.zero_le _, Nat.zero_le _, rfl, rfl, by show 12 ≤ _; omega, HA0⟩
  case round =>
    clear HA0
    obtain ⟨k, hkN, hk17, rfl, rfl, hP, HR⟩ := hrel
    obtain ⟨A, c, hi⟩ := HR.out
    have H := Lib.hid hi
    obtain ⟨rs, hrs⟩ : ∃ rs, rs = (rdS (L.drop 12) k).1 := ⟨_, rfl⟩
    rw [← hrs] at H
    have HLen := Lib.hid (show rs.length = k by rw [hrs]; exact rdS_len _ _)
    have HRS := Lib.hid hrs
    clear hi HR hrs
    by_cases hlt : k < N ∧ k < 17
    · obtain ⟨hl1, hl2⟩ := hlt
      have l1 : (k : Int) < N := by omega
      have l2 : (k : Int) < 17 := by omega
      have HTell := Lib.hid (fun (h : imB s = true) => by
        have q := (imB_tells h).2.2 k (by rw [← HL.out, ← HN.out]; exact hl1)
        rw [← HL.out] at q; exact q : imB s = true → 9 + numL 1 ((L.drop (posL L k)).drop 8) ≤ (L.drop (posL L k)).length)
      have HPos := Lib.hid (posL_at L k)
      have HPn := Lib.hid (show posL L (k + 1) = posL L k + (9 + numL 1 ((rdS (L.drop 12) k).2.drop 8)) from rfl)
      generalize posL L k = P at *
      have HLd := Lib.hid (show (L.drop P).length = s.size - P by rw [List.length_drop, HLn.out])
      by_cases c1 : P + 8 ≤ s.size
      · have HKy := Lib.hid (show bigR s (P : Nat) ((8 : Nat) : Int) = numL 8 (L.drop P) by rw [num_big (by decide) (by decide) c1, ← HL.out])
        have HKo := Lib.hid (show okB s (P : Nat) ((8 : Nat) : Int) = true from okB_yes (by omega))
        obtain ⟨key, hkey⟩ : ∃ g, g = numL 8 (L.drop P) := ⟨_, rfl⟩
        rw [← hkey] at HKy
        have HKey := Lib.hid hkey
        clear hkey
        by_cases c2 : P + 9 ≤ s.size
        · have c2I : ¬ (s.size : Int) < (P : Int) + 9 := by omega
          have i0 : (0 : Int) ≤ (P : Int) + 8 := by omega
          have i1 : (P : Int) + 8 < s.size := by omega
          have nP := num_one (s := s) (k := P + 8) (by omega)
          rw [← HL.out, ← List.drop_drop] at nP
          obtain ⟨n, hn⟩ : ∃ g, g = numL 1 ((L.drop P).drop 8) := ⟨_, rfl⟩
          have bn : n < 256 := by rw [hn]; exact numL_lt 1 _
          rw [← hn] at nP HTell
          have HNn := Lib.hid hn
          have nPs := nP.symm
          clear hn nP
          by_cases c3 : n ≤ s.size - P - 9
          · have c3I : ¬ (s.size : Int) - P - 9 < n := by omega
            go_wp2_with (fail)
            refine (refBig_any s P 8 _ HS.out).mono ?_; rintro e v ⟨rfl, rfl⟩
            rw [show bigR s P 8 = key from HKy.out, show okB s P 8 = true from HKo.out]
            go_upto_region 13 with (fail)
            have qa : IntKind.i64.wrap ((P : Int) + 9) = (P : Int) + 9 := by rw [IntKind.wrap_i64]; omega
            have qb : IntKind.i64.wrap ((P : Int) + 9 + (n : Int)) = (P : Int) + 9 + (n : Int) := by rw [IntKind.wrap_i64]; omega
            have j0 : (0 : Int) ≤ (P : Int) + 9 := by omega
            have j1 : (P : Int) + 9 ≤ (P : Int) + 9 + (n : Int) := by omega
            have j2 : (P : Int) + 9 + (n : Int) ≤ s.size := by omega
            have ja : ((P : Int) + 9).toNat = P + 9 := by omega
            have jb : ((P : Int) + 9 + (n : Int)).toNat = P + 9 + n := by omega
            have c0 : wr.cell? ⟨T, 0, none⟩ = some (.slice A rs.length c) := H.out.tb.cell 0
            have hH6 : DcI w T A c ⟨rs, g8, ⟨#[]⟩, g4, p10⟩ (wr.alloc (.cells (regC ⟨s.extract (P + 9) (P + 9 + n), key⟩) 48)).drew := H.out.below ((Below.refl wr.heap.size wr).alloc (Nat.le_refl _) _).drew
            have e6 : (wr.alloc (.cells (regC ⟨s.extract (P + 9) (P + 9 + n), key⟩) 48)).cell? ⟨T, 0, none⟩ = some (.slice A rs.length c) := hH6.tb.cell 0
            have H6 := Lib.hid hH6
            clear hH6
            go_region_law (first
              | (refine step_rg (by rfl) (.tmp 80) (.tmp 91) (by rfl) w.heap.size A c rs (by rfl) H6.out.own wr.heap.size ⟨s.extract (P + 9) (P + 9 + n), key⟩ (by rfl) (by show (s.extract _ _).size ≤ _; rw [ByteArray.size_extract]; have := HS.out; omega) (Blk.new wr 48 _).drew (by have := HLen.out; omega) H6.out.bel.size ?_
                 intro A7 q7 w7 ho7 hg7
                 have H7 := Lib.hid (dci_more H6.out hg7 ho7 rfl)
                 have b7 := H6.out.tb.grown hg7 (fun e => own_apart H6.out.own.1 H6.out.tb (by decide) e.symm)
                 have f7 := b7.free 0
                 have e7 : w7.cell? ⟨T, 0, none⟩ = some (.slice A rs.length c) := b7.cell 0
                 clear ho7 hg7 b7))
            all_goals (
              have hlen7 : (rs ++ [(⟨s.extract (P + 9) (P + 9 + n), key⟩ : Rg)]).length = rs.length + 1 := by simp
              have hP7 := H7.out
              rw [hlen7] at hP7
              have HP7 := Lib.hid hP7
              clear hP7 hlen7
              go_upto_region 14 with (fail)
              generalize w7.setCell ⟨T, 0, none⟩ (.slice A7 (rs.length + 1) q7) = w8 at *
              clear c0 e6 e7 f7 H6 H7 qa qb j0 j1 j2 ja jb
              have HPn2 := Lib.hid (show posL L (k + 1) = P + (9 + n) by rw [HPn.out, HPos.out, HNn.out])
              have r1 : IntKind.i64.wrap ((9 : Int) + (n : Int)) = (9 : Int) + n := by rw [IntKind.wrap_i64]; omega
              have r2 : IntKind.i64.wrap ((P : Int) + ((9 : Int) + (n : Int))) = (P : Int) + ((9 : Int) + n) := by rw [IntKind.wrap_i64]; omega
              go_wp2_with (fail)
              go_roundw
              case rel =>
                refine ⟨k + 1, by omega, by omega, by go_num, by rw [HPn2.out]; go_num, by rw [HPn2.out]; omega, Lib.hid ⟨A7, q7, ?_⟩⟩
                have ex : rgOf (L.drop P) = ⟨s.extract (P + 9) (P + 9 + n), key⟩ := by unfold rgOf; rw [host_at, ← HL.out, ← HNn.out, ← HKey.out]
                have er : (rdS (L.drop 12) (k + 1)).1 = rs ++ [⟨s.extract (P + 9) (P + 9 + n), key⟩] := by simp only [rdS]; rw [HPos.out, ← HRS.out, ex]
                rw [er]; exact HP7.out
              case measure => simp [intOf]; omega)
          · have c3I : (s.size : Int) - P - 9 < n := by omega
            have HF := Lib.hid (show imB s = false by
              cases h : imB s with
              | false => rfl
              | true => have q := HTell.out h; rw [HLd.out] at q; omega)
            have r0 : wr.cell? ⟨w.heap.size, 0, none⟩ = some (.slice none 0 0) := H.out.res.cell 0
            have r1 : wr.cell? ⟨w.heap.size, 1, none⟩ = some (.int .i64 0) := H.out.res.cell 1
            have r2 : wr.cell? ⟨w.heap.size, 2, none⟩ = some (.string ⟨#[]⟩) := H.out.res.cell 2
            have r3 : wr.cell? ⟨w.heap.size, 3, none⟩ = some (.int .u32 0) := H.out.res.cell 3
            have r4 : wr.cell? ⟨w.heap.size, 4, none⟩ = some (.bool false) := H.out.res.cell 4
            have z0 := H.out.res.free 0
            have z1 := H.out.res.free 1
            have z2 := H.out.res.free 2
            have z3 := H.out.res.free 3
            have z4 := H.out.res.free 4
            go_wp2_with (fail)
            refine (refBig_any s P 8 _ HS.out).mono ?_; rintro e v ⟨rfl, rfl⟩
            rw [show bigR s P 8 = key from HKy.out, show okB s P 8 = true from HKo.out]
            go_wp2_with (fail)
            obtain ⟨hK, hB⟩ := H.out.none _ rfl
            refine bodyPost_ret_by (results_tl rfl _ _ w.heap.size _ _ _ _ _ rfl hK) rfl ?_
            rw [(decT_no HF.out).1, (decT_no HF.out).2]
            exact ⟨none, 0, rfl, Own.nil _ _, hB⟩
        · have c2I : (s.size : Int) < (P : Int) + 9 := by omega
          have HF := Lib.hid (show imB s = false by
            cases h : imB s with
            | false => rfl
            | true => have q := HTell.out h; rw [HLd.out] at q; omega)
          have r0 : wr.cell? ⟨w.heap.size, 0, none⟩ = some (.slice none 0 0) := H.out.res.cell 0
          have r1 : wr.cell? ⟨w.heap.size, 1, none⟩ = some (.int .i64 0) := H.out.res.cell 1
          have r2 : wr.cell? ⟨w.heap.size, 2, none⟩ = some (.string ⟨#[]⟩) := H.out.res.cell 2
          have r3 : wr.cell? ⟨w.heap.size, 3, none⟩ = some (.int .u32 0) := H.out.res.cell 3
          have r4 : wr.cell? ⟨w.heap.size, 4, none⟩ = some (.bool false) := H.out.res.cell 4
          have z0 := H.out.res.free 0
          have z1 := H.out.res.free 1
          have z2 := H.out.res.free 2
          have z3 := H.out.res.free 3
          have z4 := H.out.res.free 4
          go_wp2_with (fail)
          refine (refBig_any s P 8 _ HS.out).mono ?_; rintro e v ⟨rfl, rfl⟩
          rw [show bigR s P 8 = key from HKy.out, show okB s P 8 = true from HKo.out]
          go_wp2_with (fail)
          obtain ⟨hK, hB⟩ := H.out.none _ rfl
          refine bodyPost_ret_by (results_tl rfl _ _ w.heap.size _ _ _ _ _ rfl hK) rfl ?_
          rw [(decT_no HF.out).1, (decT_no HF.out).2]
          exact ⟨none, 0, rfl, Own.nil _ _, hB⟩
      · have HKo := Lib.hid (show okB s (P : Nat) ((8 : Nat) : Int) = false from okB_no (by omega))
        have HF := Lib.hid (show imB s = false by
          cases h : imB s with
          | false => rfl
          | true => have q := HTell.out h; rw [HLd.out] at q; omega)
        have r0 : wr.cell? ⟨w.heap.size, 0, none⟩ = some (.slice none 0 0) := H.out.res.cell 0
        have r1 : wr.cell? ⟨w.heap.size, 1, none⟩ = some (.int .i64 0) := H.out.res.cell 1
        have r2 : wr.cell? ⟨w.heap.size, 2, none⟩ = some (.string ⟨#[]⟩) := H.out.res.cell 2
        have r3 : wr.cell? ⟨w.heap.size, 3, none⟩ = some (.int .u32 0) := H.out.res.cell 3
        have r4 : wr.cell? ⟨w.heap.size, 4, none⟩ = some (.bool false) := H.out.res.cell 4
        have z0 := H.out.res.free 0
        have z1 := H.out.res.free 1
        have z2 := H.out.res.free 2
        have z3 := H.out.res.free 3
        have z4 := H.out.res.free 4
        go_wp2_with (fail)
        refine (refBig_any s P 8 _ HS.out).mono ?_; rintro e v ⟨rfl, rfl⟩
        rw [show okB s P 8 = false from HKo.out]
        go_wp2_with (fail)
        obtain ⟨hK, hB⟩ := H.out.none _ rfl
        refine bodyPost_ret_by (results_tl rfl _ _ w.heap.size _ _ _ _ _ rfl hK) rfl ?_
        rw [(decT_no HF.out).1, (decT_no HF.out).2]
        exact ⟨none, 0, rfl, Own.nil _ _, hB⟩
    · have HKm := Lib.hid (show k = min N 17 by omega)
      have HLe := HLen
      by_cases hkN : k < N
      · have l1 : (k : Int) < N := by omega
        have l2 : ¬ (k : Int) < 17 := by omega
        clear hlt
        have HRT := Lib.hid (show refT L k = ⟨rs, (g8 : Nat), hoOf rs g9, (g4 : Nat), p10⟩ by
          unfold refT
          rw [← HRS.out, ← HG8.out, ← HG9.out, ← HG4.out, HP10.out])
        have HYes := Lib.hid (fun (h1 : goodB (refT L k) = true) (h2 : baL (imgL (refT L k)) = s) => by
          have q := refT_yes (s := s) (n := k) (by rw [← HL.out]; exact h1) (by rw [← HL.out]; exact h2)
          rw [← HL.out] at q; exact q : goodB (refT L k) = true → baL (imgL (refT L k)) = s → imB s = true ∧ readT L = refT L k)
        have HNo := Lib.hid (fun (h : goodB (refT L k) = true → baL (imgL (refT L k)) ≠ s) => refT_no (s := s) (n := k) (by rw [← HL.out, ← HN.out]; exact HKm.out) (by rw [← HL.out]; exact h))
        have HRu := Lib.hid (refT_u L k)
        have n9 := N9.out.symm
        by_cases a1 : 0 < g9
        · have i1 : (0 : Int) < g9 := by omega
          by_cases a2 : g9 ≤ rs.length
          · have i2 : ¬ (rs.length : Int) < g9 := by omega
            obtain ⟨j, hj⟩ : ∃ j, g9 = j + 1 := ⟨g9 - 1, by omega⟩
            have hjI : (g9 : Int) - 1 = j := by omega
            have hjl : j < rs.length := by omega
            obtain ⟨b, o, x, rfl, hx, hz, d0, d1⟩ := H.out.own.rgs.at_ hjl
            have HT := Lib.hid (show refT L k = ⟨rs, (g8 : Nat), x.h, (g4 : Nat), p10⟩ by
              rw [HRT.out]; unfold hoOf; rw [if_pos ⟨a1, a2⟩, hj, Nat.add_sub_cancel, List.getD_eq_getElem?_getD, hx]; rfl)
            have hjI2 : (j : Int) < rs.length := by omega
            clear hx hz a1 a2 d1 hj HRT
            have c0 : wr.cell? ⟨T, 0, none⟩ = some (.slice (some ⟨b, o, none⟩) rs.length c) := H.out.tb.cell 0
            have c2 : wr.cell? ⟨T, 2, none⟩ = some (.string ⟨#[]⟩) := H.out.tb.cell 2
            have f2 := H.out.tb.free 2
            have H6 := Lib.hid (dci_put H.out 2 (.string x.h) (t' := ⟨rs, g8, x.h, g4, p10⟩) rfl rfl)
            go_upto_region 20 with (fail)
            generalize wr.setCell ⟨T, 2, none⟩ (.string x.h) = w6 at *
            clear c0 c2 f2 d0 H
            obtain ⟨te, hte⟩ : ∃ te : Tl, te = ⟨rs, (g8 : Nat), x.h, (g4 : Nat), p10⟩ := ⟨_, rfl⟩
            rw [← hte] at H6 HT
            rw [HT.out] at HYes HNo HRu
            have HLt := Lib.hid (show te.rs.length ≤ maxLen by rw [hte]; exact Nat.le_trans (Nat.le_of_eq HLe.out) (Nat.le_trans hk17 (by decide)))
            clear hte HT
            have k0 : w6.cell? ⟨T, 0, none⟩ = some (.slice (some ⟨b, o, none⟩) te.rs.length c) := H6.out.tb.cell 0
            have k1 : w6.cell? ⟨T, 1, none⟩ = some (.int .i64 te.ty) := H6.out.tb.cell 1
            have k2 : w6.cell? ⟨T, 2, none⟩ = some (.string te.ho) := H6.out.tb.cell 2
            have k3 : w6.cell? ⟨T, 3, none⟩ = some (.int .u32 te.ge) := H6.out.tb.cell 3
            have k4 : w6.cell? ⟨T, 4, none⟩ = some (.bool te.ap) := H6.out.tb.cell 4
            go_wp2_with (fail)
            refine (refEncode_any (some ⟨b, o, none⟩) c te _ H6.out.own.rgs HLt.out HRu.out).mono ?_; rintro e w7 ⟨rfl, hb⟩
            have H7 := Lib.hid (H6.out.below hb)
            clear hb k0 k1 k2 k3 k4 H6
            unfold encS encC
            cases hg : goodB te with
            | false =>
              have HF := Lib.hid (HNo.out (fun h => by rw [hg] at h; cases h))
              clear hg HYes HNo
              have r0 : w7.cell? ⟨w.heap.size, 0, none⟩ = some (.slice none 0 0) := H7.out.res.cell 0
              have r1 : w7.cell? ⟨w.heap.size, 1, none⟩ = some (.int .i64 0) := H7.out.res.cell 1
              have r2 : w7.cell? ⟨w.heap.size, 2, none⟩ = some (.string ⟨#[]⟩) := H7.out.res.cell 2
              have r3 : w7.cell? ⟨w.heap.size, 3, none⟩ = some (.int .u32 0) := H7.out.res.cell 3
              have r4 : w7.cell? ⟨w.heap.size, 4, none⟩ = some (.bool false) := H7.out.res.cell 4
              have z0 := H7.out.res.free 0
              have z1 := H7.out.res.free 1
              have z2 := H7.out.res.free 2
              have z3 := H7.out.res.free 3
              have z4 := H7.out.res.free 4
              go_wp2_with (fail)
              obtain ⟨hK, hB⟩ := H7.out.none _ rfl
              refine bodyPost_ret_by (results_tl rfl _ _ w.heap.size _ _ _ _ _ rfl hK) rfl ?_
              rw [(decT_no HF.out).1, (decT_no HF.out).2]
              exact ⟨none, 0, rfl, Own.nil _ _, hB⟩
            | true =>
              obtain ⟨es, hes⟩ : ∃ x, x = baL (imgL te) := ⟨_, rfl⟩
              rw [if_pos rfl, if_pos rfl, ← hes]
              rw [← hes] at HYes HNo
              cases hq : eqS es s with
              | false =>
                have HF := Lib.hid (HNo.out (fun _ => eqS_no.1 hq))
                have hn : (es.toList == s.toList) = false := hq
                clear hg HYes HNo hq hes
                have r0 : w7.cell? ⟨w.heap.size, 0, none⟩ = some (.slice none 0 0) := H7.out.res.cell 0
                have r1 : w7.cell? ⟨w.heap.size, 1, none⟩ = some (.int .i64 0) := H7.out.res.cell 1
                have r2 : w7.cell? ⟨w.heap.size, 2, none⟩ = some (.string ⟨#[]⟩) := H7.out.res.cell 2
                have r3 : w7.cell? ⟨w.heap.size, 3, none⟩ = some (.int .u32 0) := H7.out.res.cell 3
                have r4 : w7.cell? ⟨w.heap.size, 4, none⟩ = some (.bool false) := H7.out.res.cell 4
                have z0 := H7.out.res.free 0
                have z1 := H7.out.res.free 1
                have z2 := H7.out.res.free 2
                have z3 := H7.out.res.free 3
                have z4 := H7.out.res.free 4
                go_wp2_with (fail)
                obtain ⟨hK, hB⟩ := H7.out.none _ rfl
                refine bodyPost_ret_by (results_tl rfl _ _ w.heap.size _ _ _ _ _ rfl hK) rfl ?_
                rw [(decT_no HF.out).1, (decT_no HF.out).2]
                exact ⟨none, 0, rfl, Own.nil _ _, hB⟩
              | true =>
                have HF := Lib.hid (HYes.out hg (eqS_iff.1 hq))
                have hn : (es.toList == s.toList) = true := hq
                clear hg HYes HNo hq hes
                have k0 : w7.cell? ⟨T, 0, none⟩ = some (.slice (some ⟨b, o, none⟩) te.rs.length c) := H7.out.tb.cell 0
                have k1 : w7.cell? ⟨T, 1, none⟩ = some (.int .i64 te.ty) := H7.out.tb.cell 1
                have k2 : w7.cell? ⟨T, 2, none⟩ = some (.string te.ho) := H7.out.tb.cell 2
                have k3 : w7.cell? ⟨T, 3, none⟩ = some (.int .u32 te.ge) := H7.out.tb.cell 3
                have k4 : w7.cell? ⟨T, 4, none⟩ = some (.bool te.ap) := H7.out.tb.cell 4
                have r0 : w7.cell? ⟨w.heap.size, 0, none⟩ = some (.slice none 0 0) := H7.out.res.cell 0
                have r1 : w7.cell? ⟨w.heap.size, 1, none⟩ = some (.int .i64 0) := H7.out.res.cell 1
                have r2 : w7.cell? ⟨w.heap.size, 2, none⟩ = some (.string ⟨#[]⟩) := H7.out.res.cell 2
                have r3 : w7.cell? ⟨w.heap.size, 3, none⟩ = some (.int .u32 0) := H7.out.res.cell 3
                have r4 : w7.cell? ⟨w.heap.size, 4, none⟩ = some (.bool false) := H7.out.res.cell 4
                have z0 := H7.out.res.free 0
                have z1 := H7.out.res.free 1
                have z2 := H7.out.res.free 2
                have z3 := H7.out.res.free 3
                have z4 := H7.out.res.free 4
                go_wp2_with (fail)
                obtain ⟨hK, hO, hB⟩ := H7.out.done _ rfl
                refine bodyPost_ret_by (results_tl rfl _ _ w.heap.size _ _ _ _ _ rfl hK) rfl ?_
                rw [(decT_yes HF.out.1).1, (decT_yes HF.out.1).2, ← HL.out, HF.out.2]
                exact ⟨some ⟨b, o, none⟩, c, rfl, hO, hB⟩
          · have i2 : (rs.length : Int) < g9 := by omega
            have HF := Lib.hid (show imB s = false by
              cases h : imB s with
              | false => rfl
              | true =>
                have q := imB_tells h
                rw [← HL.out, ← HG9.out, ← HN.out] at q
                have := HLe.out
                omega)
            have c0 : wr.cell? ⟨T, 0, none⟩ = some (.slice A rs.length c) := H.out.tb.cell 0
            clear a1 a2 HRT HYes HNo HKm
            have r0 : wr.cell? ⟨w.heap.size, 0, none⟩ = some (.slice none 0 0) := H.out.res.cell 0
            have r1 : wr.cell? ⟨w.heap.size, 1, none⟩ = some (.int .i64 0) := H.out.res.cell 1
            have r2 : wr.cell? ⟨w.heap.size, 2, none⟩ = some (.string ⟨#[]⟩) := H.out.res.cell 2
            have r3 : wr.cell? ⟨w.heap.size, 3, none⟩ = some (.int .u32 0) := H.out.res.cell 3
            have r4 : wr.cell? ⟨w.heap.size, 4, none⟩ = some (.bool false) := H.out.res.cell 4
            have z0 := H.out.res.free 0
            have z1 := H.out.res.free 1
            have z2 := H.out.res.free 2
            have z3 := H.out.res.free 3
            have z4 := H.out.res.free 4
            go_wp2_with (fail)
            obtain ⟨hK, hB⟩ := H.out.none _ rfl
            refine bodyPost_ret_by (results_tl rfl _ _ w.heap.size _ _ _ _ _ rfl hK) rfl ?_
            rw [(decT_no HF.out).1, (decT_no HF.out).2]
            exact ⟨none, 0, rfl, Own.nil _ _, hB⟩
        · have i1 : ¬ (0 : Int) < g9 := by omega
          have HT := Lib.hid (show refT L k = ⟨rs, (g8 : Nat), ⟨#[]⟩, (g4 : Nat), p10⟩ by rw [HRT.out]; unfold hoOf; rw [if_neg (by omega)])
          clear HRT a1
          have H6 := H
          go_upto_region 20 with (fail)
          obtain ⟨te, hte⟩ : ∃ te : Tl, te = ⟨rs, (g8 : Nat), ⟨#[]⟩, (g4 : Nat), p10⟩ := ⟨_, rfl⟩
          rw [← hte] at H6 HT
          rw [HT.out] at HYes HNo HRu
          have HLt := Lib.hid (show te.rs.length ≤ maxLen by rw [hte]; exact Nat.le_trans (Nat.le_of_eq HLe.out) (Nat.le_trans hk17 (by decide)))
          clear hte HT
          have k0 : wr.cell? ⟨T, 0, none⟩ = some (.slice A te.rs.length c) := H6.out.tb.cell 0
          have k1 : wr.cell? ⟨T, 1, none⟩ = some (.int .i64 te.ty) := H6.out.tb.cell 1
          have k2 : wr.cell? ⟨T, 2, none⟩ = some (.string te.ho) := H6.out.tb.cell 2
          have k3 : wr.cell? ⟨T, 3, none⟩ = some (.int .u32 te.ge) := H6.out.tb.cell 3
          have k4 : wr.cell? ⟨T, 4, none⟩ = some (.bool te.ap) := H6.out.tb.cell 4
          go_wp2_with (fail)
          refine (refEncode_any A c te _ H6.out.own.rgs HLt.out HRu.out).mono ?_; rintro e w7 ⟨rfl, hb⟩
          have H7 := Lib.hid (H6.out.below hb)
          clear hb k0 k1 k2 k3 k4 H6
          unfold encS encC
          cases hg : goodB te with
          | false =>
            have HF := Lib.hid (HNo.out (fun h => by rw [hg] at h; cases h))
            clear hg HYes HNo
            have r0 : w7.cell? ⟨w.heap.size, 0, none⟩ = some (.slice none 0 0) := H7.out.res.cell 0
            have r1 : w7.cell? ⟨w.heap.size, 1, none⟩ = some (.int .i64 0) := H7.out.res.cell 1
            have r2 : w7.cell? ⟨w.heap.size, 2, none⟩ = some (.string ⟨#[]⟩) := H7.out.res.cell 2
            have r3 : w7.cell? ⟨w.heap.size, 3, none⟩ = some (.int .u32 0) := H7.out.res.cell 3
            have r4 : w7.cell? ⟨w.heap.size, 4, none⟩ = some (.bool false) := H7.out.res.cell 4
            have z0 := H7.out.res.free 0
            have z1 := H7.out.res.free 1
            have z2 := H7.out.res.free 2
            have z3 := H7.out.res.free 3
            have z4 := H7.out.res.free 4
            go_wp2_with (fail)
            obtain ⟨hK, hB⟩ := H7.out.none _ rfl
            refine bodyPost_ret_by (results_tl rfl _ _ w.heap.size _ _ _ _ _ rfl hK) rfl ?_
            rw [(decT_no HF.out).1, (decT_no HF.out).2]
            exact ⟨none, 0, rfl, Own.nil _ _, hB⟩
          | true =>
            obtain ⟨es, hes⟩ : ∃ x, x = baL (imgL te) := ⟨_, rfl⟩
            rw [if_pos rfl, if_pos rfl, ← hes]
            rw [← hes] at HYes HNo
            cases hq : eqS es s with
            | false =>
              have HF := Lib.hid (HNo.out (fun _ => eqS_no.1 hq))
              have hn : (es.toList == s.toList) = false := hq
              clear hg HYes HNo hq hes
              have r0 : w7.cell? ⟨w.heap.size, 0, none⟩ = some (.slice none 0 0) := H7.out.res.cell 0
              have r1 : w7.cell? ⟨w.heap.size, 1, none⟩ = some (.int .i64 0) := H7.out.res.cell 1
              have r2 : w7.cell? ⟨w.heap.size, 2, none⟩ = some (.string ⟨#[]⟩) := H7.out.res.cell 2
              have r3 : w7.cell? ⟨w.heap.size, 3, none⟩ = some (.int .u32 0) := H7.out.res.cell 3
              have r4 : w7.cell? ⟨w.heap.size, 4, none⟩ = some (.bool false) := H7.out.res.cell 4
              have z0 := H7.out.res.free 0
              have z1 := H7.out.res.free 1
              have z2 := H7.out.res.free 2
              have z3 := H7.out.res.free 3
              have z4 := H7.out.res.free 4
              go_wp2_with (fail)
              obtain ⟨hK, hB⟩ := H7.out.none _ rfl
              refine bodyPost_ret_by (results_tl rfl _ _ w.heap.size _ _ _ _ _ rfl hK) rfl ?_
              rw [(decT_no HF.out).1, (decT_no HF.out).2]
              exact ⟨none, 0, rfl, Own.nil _ _, hB⟩
            | true =>
              have HF := Lib.hid (HYes.out hg (eqS_iff.1 hq))
              have hn : (es.toList == s.toList) = true := hq
              clear hg HYes HNo hq hes
              have k0 : w7.cell? ⟨T, 0, none⟩ = some (.slice A te.rs.length c) := H7.out.tb.cell 0
              have k1 : w7.cell? ⟨T, 1, none⟩ = some (.int .i64 te.ty) := H7.out.tb.cell 1
              have k2 : w7.cell? ⟨T, 2, none⟩ = some (.string te.ho) := H7.out.tb.cell 2
              have k3 : w7.cell? ⟨T, 3, none⟩ = some (.int .u32 te.ge) := H7.out.tb.cell 3
              have k4 : w7.cell? ⟨T, 4, none⟩ = some (.bool te.ap) := H7.out.tb.cell 4
              have r0 : w7.cell? ⟨w.heap.size, 0, none⟩ = some (.slice none 0 0) := H7.out.res.cell 0
              have r1 : w7.cell? ⟨w.heap.size, 1, none⟩ = some (.int .i64 0) := H7.out.res.cell 1
              have r2 : w7.cell? ⟨w.heap.size, 2, none⟩ = some (.string ⟨#[]⟩) := H7.out.res.cell 2
              have r3 : w7.cell? ⟨w.heap.size, 3, none⟩ = some (.int .u32 0) := H7.out.res.cell 3
              have r4 : w7.cell? ⟨w.heap.size, 4, none⟩ = some (.bool false) := H7.out.res.cell 4
              have z0 := H7.out.res.free 0
              have z1 := H7.out.res.free 1
              have z2 := H7.out.res.free 2
              have z3 := H7.out.res.free 3
              have z4 := H7.out.res.free 4
              go_wp2_with (fail)
              obtain ⟨hK, hO, hB⟩ := H7.out.done _ rfl
              refine bodyPost_ret_by (results_tl rfl _ _ w.heap.size _ _ _ _ _ rfl hK) rfl ?_
              rw [(decT_yes HF.out.1).1, (decT_yes HF.out.1).2, ← HL.out, HF.out.2]
              exact ⟨A, c, rfl, hO, hB⟩
      · have l1 : ¬ (k : Int) < N := by omega
        clear hlt
        have HRT := Lib.hid (show refT L k = ⟨rs, (g8 : Nat), hoOf rs g9, (g4 : Nat), p10⟩ by
          unfold refT
          rw [← HRS.out, ← HG8.out, ← HG9.out, ← HG4.out, HP10.out])
        have HYes := Lib.hid (fun (h1 : goodB (refT L k) = true) (h2 : baL (imgL (refT L k)) = s) => by
          have q := refT_yes (s := s) (n := k) (by rw [← HL.out]; exact h1) (by rw [← HL.out]; exact h2)
          rw [← HL.out] at q; exact q : goodB (refT L k) = true → baL (imgL (refT L k)) = s → imB s = true ∧ readT L = refT L k)
        have HNo := Lib.hid (fun (h : goodB (refT L k) = true → baL (imgL (refT L k)) ≠ s) => refT_no (s := s) (n := k) (by rw [← HL.out, ← HN.out]; exact HKm.out) (by rw [← HL.out]; exact h))
        have HRu := Lib.hid (refT_u L k)
        have n9 := N9.out.symm
        by_cases a1 : 0 < g9
        · have i1 : (0 : Int) < g9 := by omega
          by_cases a2 : g9 ≤ rs.length
          · have i2 : ¬ (rs.length : Int) < g9 := by omega
            obtain ⟨j, hj⟩ : ∃ j, g9 = j + 1 := ⟨g9 - 1, by omega⟩
            have hjI : (g9 : Int) - 1 = j := by omega
            have hjl : j < rs.length := by omega
            obtain ⟨b, o, x, rfl, hx, hz, d0, d1⟩ := H.out.own.rgs.at_ hjl
            have HT := Lib.hid (show refT L k = ⟨rs, (g8 : Nat), x.h, (g4 : Nat), p10⟩ by
              rw [HRT.out]; unfold hoOf; rw [if_pos ⟨a1, a2⟩, hj, Nat.add_sub_cancel, List.getD_eq_getElem?_getD, hx]; rfl)
            have hjI2 : (j : Int) < rs.length := by omega
            clear hx hz a1 a2 d1 hj HRT
            have c0 : wr.cell? ⟨T, 0, none⟩ = some (.slice (some ⟨b, o, none⟩) rs.length c) := H.out.tb.cell 0
            have c2 : wr.cell? ⟨T, 2, none⟩ = some (.string ⟨#[]⟩) := H.out.tb.cell 2
            have f2 := H.out.tb.free 2
            have H6 := Lib.hid (dci_put H.out 2 (.string x.h) (t' := ⟨rs, g8, x.h, g4, p10⟩) rfl rfl)
            go_upto_region 20 with (fail)
            generalize wr.setCell ⟨T, 2, none⟩ (.string x.h) = w6 at *
            clear c0 c2 f2 d0 H
            obtain ⟨te, hte⟩ : ∃ te : Tl, te = ⟨rs, (g8 : Nat), x.h, (g4 : Nat), p10⟩ := ⟨_, rfl⟩
            rw [← hte] at H6 HT
            rw [HT.out] at HYes HNo HRu
            have HLt := Lib.hid (show te.rs.length ≤ maxLen by rw [hte]; exact Nat.le_trans (Nat.le_of_eq HLe.out) (Nat.le_trans hk17 (by decide)))
            clear hte HT
            have k0 : w6.cell? ⟨T, 0, none⟩ = some (.slice (some ⟨b, o, none⟩) te.rs.length c) := H6.out.tb.cell 0
            have k1 : w6.cell? ⟨T, 1, none⟩ = some (.int .i64 te.ty) := H6.out.tb.cell 1
            have k2 : w6.cell? ⟨T, 2, none⟩ = some (.string te.ho) := H6.out.tb.cell 2
            have k3 : w6.cell? ⟨T, 3, none⟩ = some (.int .u32 te.ge) := H6.out.tb.cell 3
            have k4 : w6.cell? ⟨T, 4, none⟩ = some (.bool te.ap) := H6.out.tb.cell 4
            go_wp2_with (fail)
            refine (refEncode_any (some ⟨b, o, none⟩) c te _ H6.out.own.rgs HLt.out HRu.out).mono ?_; rintro e w7 ⟨rfl, hb⟩
            have H7 := Lib.hid (H6.out.below hb)
            clear hb k0 k1 k2 k3 k4 H6
            unfold encS encC
            cases hg : goodB te with
            | false =>
              have HF := Lib.hid (HNo.out (fun h => by rw [hg] at h; cases h))
              clear hg HYes HNo
              have r0 : w7.cell? ⟨w.heap.size, 0, none⟩ = some (.slice none 0 0) := H7.out.res.cell 0
              have r1 : w7.cell? ⟨w.heap.size, 1, none⟩ = some (.int .i64 0) := H7.out.res.cell 1
              have r2 : w7.cell? ⟨w.heap.size, 2, none⟩ = some (.string ⟨#[]⟩) := H7.out.res.cell 2
              have r3 : w7.cell? ⟨w.heap.size, 3, none⟩ = some (.int .u32 0) := H7.out.res.cell 3
              have r4 : w7.cell? ⟨w.heap.size, 4, none⟩ = some (.bool false) := H7.out.res.cell 4
              have z0 := H7.out.res.free 0
              have z1 := H7.out.res.free 1
              have z2 := H7.out.res.free 2
              have z3 := H7.out.res.free 3
              have z4 := H7.out.res.free 4
              go_wp2_with (fail)
              obtain ⟨hK, hB⟩ := H7.out.none _ rfl
              refine bodyPost_ret_by (results_tl rfl _ _ w.heap.size _ _ _ _ _ rfl hK) rfl ?_
              rw [(decT_no HF.out).1, (decT_no HF.out).2]
              exact ⟨none, 0, rfl, Own.nil _ _, hB⟩
            | true =>
              obtain ⟨es, hes⟩ : ∃ x, x = baL (imgL te) := ⟨_, rfl⟩
              rw [if_pos rfl, if_pos rfl, ← hes]
              rw [← hes] at HYes HNo
              cases hq : eqS es s with
              | false =>
                have HF := Lib.hid (HNo.out (fun _ => eqS_no.1 hq))
                have hn : (es.toList == s.toList) = false := hq
                clear hg HYes HNo hq hes
                have r0 : w7.cell? ⟨w.heap.size, 0, none⟩ = some (.slice none 0 0) := H7.out.res.cell 0
                have r1 : w7.cell? ⟨w.heap.size, 1, none⟩ = some (.int .i64 0) := H7.out.res.cell 1
                have r2 : w7.cell? ⟨w.heap.size, 2, none⟩ = some (.string ⟨#[]⟩) := H7.out.res.cell 2
                have r3 : w7.cell? ⟨w.heap.size, 3, none⟩ = some (.int .u32 0) := H7.out.res.cell 3
                have r4 : w7.cell? ⟨w.heap.size, 4, none⟩ = some (.bool false) := H7.out.res.cell 4
                have z0 := H7.out.res.free 0
                have z1 := H7.out.res.free 1
                have z2 := H7.out.res.free 2
                have z3 := H7.out.res.free 3
                have z4 := H7.out.res.free 4
                go_wp2_with (fail)
                obtain ⟨hK, hB⟩ := H7.out.none _ rfl
                refine bodyPost_ret_by (results_tl rfl _ _ w.heap.size _ _ _ _ _ rfl hK) rfl ?_
                rw [(decT_no HF.out).1, (decT_no HF.out).2]
                exact ⟨none, 0, rfl, Own.nil _ _, hB⟩
              | true =>
                have HF := Lib.hid (HYes.out hg (eqS_iff.1 hq))
                have hn : (es.toList == s.toList) = true := hq
                clear hg HYes HNo hq hes
                have k0 : w7.cell? ⟨T, 0, none⟩ = some (.slice (some ⟨b, o, none⟩) te.rs.length c) := H7.out.tb.cell 0
                have k1 : w7.cell? ⟨T, 1, none⟩ = some (.int .i64 te.ty) := H7.out.tb.cell 1
                have k2 : w7.cell? ⟨T, 2, none⟩ = some (.string te.ho) := H7.out.tb.cell 2
                have k3 : w7.cell? ⟨T, 3, none⟩ = some (.int .u32 te.ge) := H7.out.tb.cell 3
                have k4 : w7.cell? ⟨T, 4, none⟩ = some (.bool te.ap) := H7.out.tb.cell 4
                have r0 : w7.cell? ⟨w.heap.size, 0, none⟩ = some (.slice none 0 0) := H7.out.res.cell 0
                have r1 : w7.cell? ⟨w.heap.size, 1, none⟩ = some (.int .i64 0) := H7.out.res.cell 1
                have r2 : w7.cell? ⟨w.heap.size, 2, none⟩ = some (.string ⟨#[]⟩) := H7.out.res.cell 2
                have r3 : w7.cell? ⟨w.heap.size, 3, none⟩ = some (.int .u32 0) := H7.out.res.cell 3
                have r4 : w7.cell? ⟨w.heap.size, 4, none⟩ = some (.bool false) := H7.out.res.cell 4
                have z0 := H7.out.res.free 0
                have z1 := H7.out.res.free 1
                have z2 := H7.out.res.free 2
                have z3 := H7.out.res.free 3
                have z4 := H7.out.res.free 4
                go_wp2_with (fail)
                obtain ⟨hK, hO, hB⟩ := H7.out.done _ rfl
                refine bodyPost_ret_by (results_tl rfl _ _ w.heap.size _ _ _ _ _ rfl hK) rfl ?_
                rw [(decT_yes HF.out.1).1, (decT_yes HF.out.1).2, ← HL.out, HF.out.2]
                exact ⟨some ⟨b, o, none⟩, c, rfl, hO, hB⟩
          · have i2 : (rs.length : Int) < g9 := by omega
            have HF := Lib.hid (show imB s = false by
              cases h : imB s with
              | false => rfl
              | true =>
                have q := imB_tells h
                rw [← HL.out, ← HG9.out, ← HN.out] at q
                have := HLe.out
                omega)
            have c0 : wr.cell? ⟨T, 0, none⟩ = some (.slice A rs.length c) := H.out.tb.cell 0
            clear a1 a2 HRT HYes HNo HKm
            have r0 : wr.cell? ⟨w.heap.size, 0, none⟩ = some (.slice none 0 0) := H.out.res.cell 0
            have r1 : wr.cell? ⟨w.heap.size, 1, none⟩ = some (.int .i64 0) := H.out.res.cell 1
            have r2 : wr.cell? ⟨w.heap.size, 2, none⟩ = some (.string ⟨#[]⟩) := H.out.res.cell 2
            have r3 : wr.cell? ⟨w.heap.size, 3, none⟩ = some (.int .u32 0) := H.out.res.cell 3
            have r4 : wr.cell? ⟨w.heap.size, 4, none⟩ = some (.bool false) := H.out.res.cell 4
            have z0 := H.out.res.free 0
            have z1 := H.out.res.free 1
            have z2 := H.out.res.free 2
            have z3 := H.out.res.free 3
            have z4 := H.out.res.free 4
            go_wp2_with (fail)
            obtain ⟨hK, hB⟩ := H.out.none _ rfl
            refine bodyPost_ret_by (results_tl rfl _ _ w.heap.size _ _ _ _ _ rfl hK) rfl ?_
            rw [(decT_no HF.out).1, (decT_no HF.out).2]
            exact ⟨none, 0, rfl, Own.nil _ _, hB⟩
        · have i1 : ¬ (0 : Int) < g9 := by omega
          have HT := Lib.hid (show refT L k = ⟨rs, (g8 : Nat), ⟨#[]⟩, (g4 : Nat), p10⟩ by rw [HRT.out]; unfold hoOf; rw [if_neg (by omega)])
          clear HRT a1
          have H6 := H
          go_upto_region 20 with (fail)
          obtain ⟨te, hte⟩ : ∃ te : Tl, te = ⟨rs, (g8 : Nat), ⟨#[]⟩, (g4 : Nat), p10⟩ := ⟨_, rfl⟩
          rw [← hte] at H6 HT
          rw [HT.out] at HYes HNo HRu
          have HLt := Lib.hid (show te.rs.length ≤ maxLen by rw [hte]; exact Nat.le_trans (Nat.le_of_eq HLe.out) (Nat.le_trans hk17 (by decide)))
          clear hte HT
          have k0 : wr.cell? ⟨T, 0, none⟩ = some (.slice A te.rs.length c) := H6.out.tb.cell 0
          have k1 : wr.cell? ⟨T, 1, none⟩ = some (.int .i64 te.ty) := H6.out.tb.cell 1
          have k2 : wr.cell? ⟨T, 2, none⟩ = some (.string te.ho) := H6.out.tb.cell 2
          have k3 : wr.cell? ⟨T, 3, none⟩ = some (.int .u32 te.ge) := H6.out.tb.cell 3
          have k4 : wr.cell? ⟨T, 4, none⟩ = some (.bool te.ap) := H6.out.tb.cell 4
          go_wp2_with (fail)
          refine (refEncode_any A c te _ H6.out.own.rgs HLt.out HRu.out).mono ?_; rintro e w7 ⟨rfl, hb⟩
          have H7 := Lib.hid (H6.out.below hb)
          clear hb k0 k1 k2 k3 k4 H6
          unfold encS encC
          cases hg : goodB te with
          | false =>
            have HF := Lib.hid (HNo.out (fun h => by rw [hg] at h; cases h))
            clear hg HYes HNo
            have r0 : w7.cell? ⟨w.heap.size, 0, none⟩ = some (.slice none 0 0) := H7.out.res.cell 0
            have r1 : w7.cell? ⟨w.heap.size, 1, none⟩ = some (.int .i64 0) := H7.out.res.cell 1
            have r2 : w7.cell? ⟨w.heap.size, 2, none⟩ = some (.string ⟨#[]⟩) := H7.out.res.cell 2
            have r3 : w7.cell? ⟨w.heap.size, 3, none⟩ = some (.int .u32 0) := H7.out.res.cell 3
            have r4 : w7.cell? ⟨w.heap.size, 4, none⟩ = some (.bool false) := H7.out.res.cell 4
            have z0 := H7.out.res.free 0
            have z1 := H7.out.res.free 1
            have z2 := H7.out.res.free 2
            have z3 := H7.out.res.free 3
            have z4 := H7.out.res.free 4
            go_wp2_with (fail)
            obtain ⟨hK, hB⟩ := H7.out.none _ rfl
            refine bodyPost_ret_by (results_tl rfl _ _ w.heap.size _ _ _ _ _ rfl hK) rfl ?_
            rw [(decT_no HF.out).1, (decT_no HF.out).2]
            exact ⟨none, 0, rfl, Own.nil _ _, hB⟩
          | true =>
            obtain ⟨es, hes⟩ : ∃ x, x = baL (imgL te) := ⟨_, rfl⟩
            rw [if_pos rfl, if_pos rfl, ← hes]
            rw [← hes] at HYes HNo
            cases hq : eqS es s with
            | false =>
              have HF := Lib.hid (HNo.out (fun _ => eqS_no.1 hq))
              have hn : (es.toList == s.toList) = false := hq
              clear hg HYes HNo hq hes
              have r0 : w7.cell? ⟨w.heap.size, 0, none⟩ = some (.slice none 0 0) := H7.out.res.cell 0
              have r1 : w7.cell? ⟨w.heap.size, 1, none⟩ = some (.int .i64 0) := H7.out.res.cell 1
              have r2 : w7.cell? ⟨w.heap.size, 2, none⟩ = some (.string ⟨#[]⟩) := H7.out.res.cell 2
              have r3 : w7.cell? ⟨w.heap.size, 3, none⟩ = some (.int .u32 0) := H7.out.res.cell 3
              have r4 : w7.cell? ⟨w.heap.size, 4, none⟩ = some (.bool false) := H7.out.res.cell 4
              have z0 := H7.out.res.free 0
              have z1 := H7.out.res.free 1
              have z2 := H7.out.res.free 2
              have z3 := H7.out.res.free 3
              have z4 := H7.out.res.free 4
              go_wp2_with (fail)
              obtain ⟨hK, hB⟩ := H7.out.none _ rfl
              refine bodyPost_ret_by (results_tl rfl _ _ w.heap.size _ _ _ _ _ rfl hK) rfl ?_
              rw [(decT_no HF.out).1, (decT_no HF.out).2]
              exact ⟨none, 0, rfl, Own.nil _ _, hB⟩
            | true =>
              have HF := Lib.hid (HYes.out hg (eqS_iff.1 hq))
              have hn : (es.toList == s.toList) = true := hq
              clear hg HYes HNo hq hes
              have k0 : w7.cell? ⟨T, 0, none⟩ = some (.slice A te.rs.length c) := H7.out.tb.cell 0
              have k1 : w7.cell? ⟨T, 1, none⟩ = some (.int .i64 te.ty) := H7.out.tb.cell 1
              have k2 : w7.cell? ⟨T, 2, none⟩ = some (.string te.ho) := H7.out.tb.cell 2
              have k3 : w7.cell? ⟨T, 3, none⟩ = some (.int .u32 te.ge) := H7.out.tb.cell 3
              have k4 : w7.cell? ⟨T, 4, none⟩ = some (.bool te.ap) := H7.out.tb.cell 4
              have r0 : w7.cell? ⟨w.heap.size, 0, none⟩ = some (.slice none 0 0) := H7.out.res.cell 0
              have r1 : w7.cell? ⟨w.heap.size, 1, none⟩ = some (.int .i64 0) := H7.out.res.cell 1
              have r2 : w7.cell? ⟨w.heap.size, 2, none⟩ = some (.string ⟨#[]⟩) := H7.out.res.cell 2
              have r3 : w7.cell? ⟨w.heap.size, 3, none⟩ = some (.int .u32 0) := H7.out.res.cell 3
              have r4 : w7.cell? ⟨w.heap.size, 4, none⟩ = some (.bool false) := H7.out.res.cell 4
              have z0 := H7.out.res.free 0
              have z1 := H7.out.res.free 1
              have z2 := H7.out.res.free 2
              have z3 := H7.out.res.free 3
              have z4 := H7.out.res.free 4
              go_wp2_with (fail)
              obtain ⟨hK, hO, hB⟩ := H7.out.done _ rfl
              refine bodyPost_ret_by (results_tl rfl _ _ w.heap.size _ _ _ _ _ rfl hK) rfl ?_
              rw [(decT_yes HF.out.1).1, (decT_yes HF.out.1).2, ← HL.out, HF.out.2]
              exact ⟨A, c, rfl, hO, hB⟩
theorem refDecode_any (s : ByteArray) (w : World) (hs : s.size ≤ 100000) :
    Calls Tryd.prog 15 #[.string s] w fun e w' => ∃ A c, e = .returned (.tuple #[tlV A c (decT s), .int .i64 (decC s)]) ∧ Own w' w.heap.size A c (decT s).rs ∧ Below w.heap.size w w' := by
  by_cases h : s.size < 16
  · exact refDecode_short s w h
  · exact refDecode_long s w hs (by omega)
end Go.Proofs.YthedonkjnfeajaaDoor
