/- Crash of the document's device. -/
import Derived.Test.YtlcaokgdbocmiaaRefFlush
namespace Go.Proofs.Ytlcaokgdbocmiaa
open Go.RowKit
theorem rcrash_nil (w : World) (k : Value) : Calls Try.prog 23 #[.pointer none, k] w fun e w' => e = .returned (.tuple #[]) ∧ w = w' := by
  go_enter Try.func23, Try.ntmps23
  go_wp2
  refine bodyPost_ret (results_none rfl _ _ _) rfl ?_
  exact ⟨rfl, rfl⟩
theorem rcrash_out {w wm wr : World} {F : Nat → Prop} {p n : Nat} {x : St} {br cr bs cs : Nat} {hv : Value} {ks : List Int} (hb : Blk w p 67 (refCells n x br cr bs cs hv)) (hp : Parts w F 72 n x p br cr bs cs hv)
    (hr : Txts wr 9 br cr (x.crash ks).seen) (hs : Txts wr 9 bs cs (x.crash ks).safe) (hbw : Blk wr p 67 (refCells n x br cr bs cs hv)) (h1 : Only (its bs) w wm) (h2 : Only (its br) wm wr) :
    RfOut F w p n (x.crash ks) (((wr.setCell ⟨p, 2, none⟩ (.slice none 0 0)).setCell ⟨p, 6, none⟩ (.bool false)).setCell ⟨p, 4, none⟩ (.bool false)) := by
  have n1 : br ≠ p := hp.seen.type hb (by decide)
  have n2 : bs ≠ p := hp.safe.type hb (by decide)
  have ho : Only F w wr := (h1.mono fun k hk => by unfold its at hk; rw [hk]; exact hp.fs).trans (h2.mono (T := F) fun k hk => by unfold its at hk; rw [hk]; exact hp.fr) fun i hi => .inl hi
  refine ⟨F, ⟨br, cr, bs, cs, .slice none 0 0, ((hbw.put 2 _).put 6 _).put 4 _, ?_⟩, ((ho.setCell (.inl hp.fp) _).setCell (.inl hp.fp) _).setCell (.inl hp.fp) _, fun _ h => .inl h⟩
  refine ⟨((hr.far (p := ⟨p, 2, none⟩) n1 _).far (p := ⟨p, 6, none⟩) n1 _).far (p := ⟨p, 4, none⟩) n1 _, ((hs.far (p := ⟨p, 2, none⟩) n2 _).far (p := ⟨p, 6, none⟩) n2 _).far (p := ⟨p, 4, none⟩) n2 _, hp.apart, World.ownsRow_nil _ _ _ _, hp.fp, hp.fr, hp.fs, fun g hg => by simp [Value.ownBlock] at hg, fun k hk => ?_, good_crash hp.good ks⟩
  have := hp.lt k hk
  have := ho.size
  simp [World.setCell]; omega
set_option maxHeartbeats 1600000 in
theorem rcrash_any (w : World) {F : Nat → Prop} {p n : Nat} {x : St} (h : Rf w F p n x) (hk : x.ops ≤ 1000000000000) (A : Option Addr) (c : Nat) (ks : List Int) (hks : Nums w A ks) (hoff : 0 < ks.length → Off F A) (hlen : ks.length ≤ maxLen) :
    Calls Try.prog 23 #[.pointer (some ⟨p, 0, none⟩), .slice A ks.length c] w fun e w' => e = .returned (.tuple #[]) ∧ RfOut F w p n (x.crash ks) w' := by
  have hfew := h.good.few
  unfold maxLen at hlen
  obtain ⟨br, cr, bs, cs, hv, hb, hp⟩ := h
  obtain ⟨B, ch, rfl⟩ := own_form hp.held
  have HB := Lib.hid hb
  have HP := Lib.hid hp
  have HK := Lib.hid hks
  have HF := Lib.hid hoff
  clear hb hp hks hoff
  go_enter Try.func23, Try.ntmps23
  go_wp2_with (fail)
  go_loopw [4] (fun c wr => CrAt w bs cs x ks c wr) (fun c _ => x.held.length - (intOf c).toNat)
  case atStart => exact ⟨0, rfl, Nat.zero_le _, HP.out.safe, Only.refl _ _⟩
  case round =>
    obtain ⟨k, rfl, hk, hsf, hon⟩ := hrel
    have hbw : Blk wr p 67 (refCells n x br cr bs cs (.slice B x.held.length ch)) := HB.out.only hon (Ne.symm (HP.out.safe.type HB.out (by decide)))
    have hc2 : wr.cell? ⟨p, 2, none⟩ = some (.slice B x.held.length ch) := hbw.cell 2
    by_cases hlt : k < x.held.length
    · obtain ⟨g, cur, rfl, hg, ht⟩ := own_some HP.out.held (Nat.lt_of_le_of_lt (Nat.zero_le _) hlt)
      have hat : x.held[k]? = some (x.held[k]'hlt) := List.getElem?_eq_getElem _
      generalize x.held[k]'hlt = a at hat
      obtain ⟨i, s⟩ := a
      have hgw := hg.only hon (fun e => by obtain ⟨cu, hcu, _⟩ := HP.out.safe; exact (hg.apart hcu (by decide)) e)
      obtain ⟨c1, c2⟩ := held_cell hgw ht hat
      obtain ⟨hin, hsz⟩ := HP.out.good.place (i, s) (List.mem_of_getElem? hat)
      have HAT := Lib.hid hat
      have HSF := Lib.hid hsf
      have HON := Lib.hid hon
      have HBW := Lib.hid hbw
      clear hat ht hg hgw hsf hon hbw
      go_upto_if 21 with (fail)
      go_cut [5] (fun s5 wx => s5 = .int .i64 ((kept ks k : Nat) : Int) ∧ wx = wr)
      case first =>
        by_cases hkk : k < ks.length
        · obtain ⟨kb, ko, rfl, hkc⟩ := HK.out (by omega)
          have hkv : ks[k]? = some (ks[k]'hkk) := List.getElem?_eq_getElem _
          generalize ks[k]'hkk = v at hkv
          have HV := Lib.hid (kept_some hkv)
          have hc0 : wr.cell? ⟨kb, ko + k, none⟩ = some (.int .i64 v) := HON.out.cell (hkc k v hkv) (fun e => HF.out (by omega) _ rfl (by show F kb; rw [show kb = bs from e]; exact HP.out.fs))
          have hmm : max 0 (min v 512) = min (max v 0) 512 := by omega
          have HMM := Lib.hid hmm
          clear hkc hkv c1 c2 hmm
          go_wp2_with (fail)
          all_goals
            go_meet
            exact ⟨by rw [HV.out, ← HMM.out], rfl⟩
        · have HV := Lib.hid (kept_none (keep := ks) (k := k) (by omega))
          go_wp2_with (fail)
          go_meet
          exact ⟨by rw [HV.out]; rfl, rfl⟩
      case rest =>
        obtain ⟨rfl, hwc⟩ := hcut
        rw [hwc]
        clear hwc
        have hkept := kept_le ks k
        generalize hκ : kept ks k = κ at *
        have Hκ := Lib.hid hκ
        clear hκ
        go_upto_region 8 with (fail)
        have hsl : i < (tearN x.safe x.held ks k).length := by rw [tearN_length, HP.out.good.size]; exact hin
        have hold : (tearN x.safe x.held ks k)[i]? = some ((tearN x.safe x.held ks k)[i]'hsl) := List.getElem?_eq_getElem _
        generalize (tearN x.safe x.held ks k)[i]'hsl = old at hold
        have hosz : old.size = 512 := tearN_secs HP.out.good.secs (fun h hh => by rw [HP.out.good.size]; exact HP.out.good.place h hh) k old (List.mem_of_getElem? hold)
        have hszs : s.size = 512 := hsz
        have d0 : (wr.alloc (.cells #[.int .i64 (i : Int), .string s] 72)).cell? ⟨wr.heap.size, 0, none⟩ = some (.int .i64 (i : Int)) := (Blk.new wr 72 _).cell 0
        have d1 : (wr.alloc (.cells #[.int .i64 (i : Int), .string s] 72)).cell? ⟨wr.heap.size, 1, none⟩ = some (.string s) := (Blk.new wr 72 _).cell 1
        have d2 : (wr.alloc (.cells #[.int .i64 (i : Int), .string s] 72)).cell? ⟨p, 0, none⟩ = some (.slice (some ⟨bs, 0, none⟩) n cs) := (HBW.out.alloc _).cell 0
        have d3 : (wr.alloc (.cells #[.int .i64 (i : Int), .string s] 72)).cell? ⟨bs, i, none⟩ = some (.string old) := (HSF.out.alloc _).cell hold
        have d4 : (wr.alloc (.cells #[.int .i64 (i : Int), .string s] 72)).frozen? ⟨bs, i, none⟩ = false := (HSF.out.alloc _).free i
        have HN := Lib.hid (tear_next HAT.out hold)
        have HTX := Lib.hid ((HSF.out.alloc (.cells #[.int .i64 (i : Int), .string s] 72)).put i (mixS κ s old))
        have HOX := Lib.hid ((HON.out.alloc (.cells #[.int .i64 (i : Int), .string s] 72)).setCell (p := ⟨bs, i, none⟩) (.inl rfl) (.string (mixS κ s old)))
        generalize wr.alloc (.cells #[.int .i64 (i : Int), .string s] 72) = w2 at *
        generalize wr.heap.size = G at *
        have k1 : (κ : Int) ≤ s.size := by omega
        have k2 : (κ : Int) ≤ old.size := by omega
        have k3 : ¬ (9223372036854775807 < min κ s.size + (old.size - κ)) := by omega
        have HO2 := Lib.hid hosz
        have HS2 := Lib.hid hszs
        have hin : i < n := hin
        clear hsl c1 c2 hold hosz hszs hsz hc2
        go_region
        go_wp2_with (fail)
        exact ⟨⟨k + 1, by go_num, hlt, by rw [HN.out, Hκ.out]; exact HTX.out, HOX.out.drew⟩, by simp [intOf]; omega⟩
    · obtain rfl : k = x.held.length := by omega
      have hgc := good_crash HP.out.good ks
      have hs' : Txts wr 9 bs cs (x.crash ks).safe := hsf
      have hr' : Txts wr 9 br cr x.seen := HP.out.seen.only hon HP.out.apart
      obtain ⟨W, hcp, hWt, hOn⟩ := copy_texts wr.drew 3 hr' hs' (by rw [seen_length]; exact HP.out.good.size) hgc.size
      have h0 : wr.cell? ⟨p, 0, none⟩ = some (.slice (some ⟨bs, 0, none⟩) n cs) := hbw.cell 0
      have h1 : wr.cell? ⟨p, 1, none⟩ = some (.slice (some ⟨br, 0, none⟩) n cr) := hbw.cell 1
      have hbW : Blk W p 67 (refCells n x br cr bs cs (.slice B x.held.length ch)) := Blk.only (w := wr) hbw hOn.of_drew (Ne.symm (HP.out.seen.type HB.out (by decide)))
      have g2 : W.cell? ⟨p, 2, none⟩ = some (.slice B x.held.length ch) := hbW.cell 2
      have g4 : W.cell? ⟨p, 4, none⟩ = some (.bool x.armed) := hbW.cell 4
      have g6 : W.cell? ⟨p, 6, none⟩ = some (.bool x.down) := hbW.cell 6
      have f2 := hbW.free 2
      have f4 := hbW.free 4
      have f6 := hbW.free 6
      have HD := Lib.hid (rcrash_out HB.out HP.out (show Txts W 9 br cr (x.crash ks).seen from hWt) (hs'.keep (hOn.block bs hs'.lt (Ne.symm HP.out.apart))) hbW hon hOn.of_drew)
      clear hs' hr' hWt hOn hbW hgc hsf hon hbw
      go_wp2_with (fail)
      go_region
      go_wp2_with (fail)
      go_end0
      exact ⟨rfl, HD.out⟩
end Go.Proofs.Ytlcaokgdbocmiaa
