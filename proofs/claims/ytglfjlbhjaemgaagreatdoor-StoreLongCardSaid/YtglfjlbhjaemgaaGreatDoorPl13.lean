/- Crash of the program's device. -/
import Derived.Test.YtglfjlbhjaemgaaGreatDoorPl12
import Derived.Deep.DeepCutAuto
namespace Go.Proofs.YtglfjlbhjaemgaaGreatDoor
open Go.RowKit
theorem putAll_far {hs : List (Nat × ByteArray)} {j : Nat} (h : ∀ a ∈ hs, a.1 ≠ j) (l : List ByteArray) : (putAll l hs)[j]? = l[j]? := by
  unfold putAll
  induction hs generalizing l with
  | nil => rfl
  | cons a hs ih =>
    rw [List.foldl_cons, ih (fun b hb => h b (List.mem_cons_of_mem _ hb))]
    exact List.getElem?_set_ne (h a (List.mem_cons_self ..))
theorem tearN_far {safe : List ByteArray} {held : List (Nat × ByteArray)} {keep : List Int} {j : Nat} (h : ∀ a ∈ held, a.1 ≠ j) (k : Nat) : (tearN safe held keep k)[j]? = safe[j]? := by
  induction k with
  | zero => rfl
  | succ k ih =>
    unfold tearN
    split
    · exact ih
    · rename_i a ha
      exact (List.getElem?_set_ne (h a (List.mem_of_getElem? ha))).trans ih
def back1 (t l : List ByteArray) (h : Nat × ByteArray) : List ByteArray := l.set h.1 (t.getD h.1 ByteArray.empty)
def backN (t l : List ByteArray) (hs : List (Nat × ByteArray)) : List ByteArray := hs.foldl (back1 t) l
theorem backN_all {t : List ByteArray} : ∀ (hs : List (Nat × ByteArray)) (l : List ByteArray), l.length = t.length → (∀ j, (∀ a ∈ hs, a.1 ≠ j) → l[j]? = t[j]?) → backN t l hs = t := by
  intro hs
  induction hs with
  | nil => intro l _ h; exact List.ext_getElem? fun j => h j (fun a ha => by cases ha)
  | cons a hs ih =>
    intro l hl h
    show backN t (back1 t l a) hs = t
    refine ih _ (by simp [back1, hl]) fun j hj => ?_
    unfold back1
    by_cases e : a.1 = j
    · subst e
      by_cases hlt : a.1 < l.length
      · rw [List.getElem?_set_self hlt, List.getD_eq_getElem?_getD, List.getElem?_eq_getElem (by omega : a.1 < t.length), Option.getD_some]
      · rw [List.getElem?_eq_none (by simp; omega), List.getElem?_eq_none (by omega)]
    · rw [List.getElem?_set_ne e]
      exact h j fun b hb => by
        rcases List.mem_cons.1 hb with rfl | hb
        · exact e
        · exact hj b hb
theorem backN_length (t l : List ByteArray) (hs : List (Nat × ByteArray)) : (backN t l hs).length = l.length := by
  unfold backN
  induction hs generalizing l with
  | nil => rfl
  | cons a hs ih => rw [List.foldl_cons, ih]; simp [back1]
theorem back_next (t l : List ByteArray) {hs : List (Nat × ByteArray)} {k : Nat} {a : Nat × ByteArray} (h : hs[k]? = some a) : backN t l (hs.take (k + 1)) = (backN t l (hs.take k)).set a.1 (t.getD a.1 ByteArray.empty) := by
  rw [List.take_add_one, h]
  simp [backN, back1]
theorem crash_seen (x : St) (keep : List Int) : backN (x.crash keep).safe x.seen x.held = (x.crash keep).seen := by
  refine backN_all _ _ ?_ fun j hj => ?_
  · rw [seen_length]; exact (tearN_length ..).symm
  · exact (putAll_far hj _).trans (tearN_far hj _).symm
/-- A list of numbers in memory. -/
def Nums (w : World) (A : Option Addr) (ks : List Int) : Prop := 0 < ks.length → ∃ b o, A = some ⟨b, o, none⟩ ∧ ∀ (j : Nat) (v : Int), ks[j]? = some v → w.cell? ⟨b, o + j, none⟩ = some (.int .i64 v)
def Off (F : Nat → Prop) (A : Option Addr) : Prop := ∀ a, A = some a → ¬ F a.block
theorem Nums.only {S : Nat → Prop} {w w' : World} {A : Option Addr} {ks : List Int} (h : Nums w A ks) (ho : Only S w w') (hs : Off S A) : Nums w' A ks := fun hn => by
  obtain ⟨b, o, rfl, hc⟩ := h hn
  exact ⟨b, o, rfl, fun j v hj => ho.cell (hc j v hj) (show ¬ S b from hs ⟨b, o, none⟩ rfl)⟩
/-- Of a crash's first loop: k writes have been torn. -/
def CrAt (w : World) (bs cs : Nat) (x : St) (ks : List Int) (c : Value) (wr : World) : Prop :=
  ∃ k : Nat, c = .int .i64 (k : Int) ∧ k ≤ x.held.length ∧ Txts wr 9 bs cs (tearN x.safe x.held ks k) ∧ Only (its bs) w wr
/-- Of the second one: k sectors are seen as they are safe. -/
def CrBt (w : World) (br cr : Nat) (t l : List ByteArray) (hs : List (Nat × ByteArray)) (c : Value) (wr : World) : Prop :=
  ∃ k : Nat, c = .int .i64 (k : Int) ∧ k ≤ hs.length ∧ Txts wr 9 br cr (backN t l (hs.take k)) ∧ Only (its br) w wr
theorem tear_next {safe : List ByteArray} {held : List (Nat × ByteArray)} {keep : List Int} {k i : Nat} {s old : ByteArray} (h : held[k]? = some (i, s)) (ho : (tearN safe held keep k)[i]? = some old) :
    tearN safe held keep (k + 1) = (tearN safe held keep k).set i (mixS (kept keep k) s old) := by
  show (match held[k]? with | none => _ | some h => _) = _
  rw [h]
  show tear1 _ _ _ = _
  unfold tear1
  rw [List.getD_eq_getElem?_getD, ho, Option.getD_some]
theorem kept_none {keep : List Int} {k : Nat} (h : keep.length ≤ k) : kept keep k = 0 := by unfold kept; rw [List.getElem?_eq_none h]
theorem kept_some {keep : List Int} {k : Nat} {v : Int} (h : keep[k]? = some v) : ((kept keep k : Nat) : Int) = min (max v 0) 512 := by
  unfold kept
  rw [h]
  show (((min (max v 0) 512).toNat : Nat) : Int) = _
  omega
theorem crash_out {w wm wr : World} {F : Nat → Prop} {p n : Nat} {x : St} {br cr bs cs : Nat} {hv : Value} {ks : List Int} (hb : Blk w p 112 (devCells n x br cr bs cs hv)) (hp : Parts w F 153 n x p br cr bs cs hv)
    (hr : Txts wr 9 br cr (x.crash ks).seen) (hs : Txts wr 9 bs cs (x.crash ks).safe) (hbw : Blk wr p 112 (devCells n x br cr bs cs hv)) (h1 : Only (its bs) w wm) (h2 : Only (its br) wm wr) :
    DvOut F w p n (x.crash ks) (((wr.setCell ⟨p, 3, none⟩ (.slice none 0 0)).setCell ⟨p, 4, none⟩ (.bool false)).setCell ⟨p, 6, none⟩ (.bool false)) := by
  have n1 : br ≠ p := hp.seen.type hb (by decide)
  have n2 : bs ≠ p := hp.safe.type hb (by decide)
  have ho : Only F w wr := (h1.mono fun k hk => by unfold its at hk; rw [hk]; exact hp.fs).trans (h2.mono (T := F) fun k hk => by unfold its at hk; rw [hk]; exact hp.fr) fun i hi => .inl hi
  refine ⟨F, ⟨br, cr, bs, cs, .slice none 0 0, ((hbw.put 3 _).put 4 _).put 6 _, ?_⟩, ((ho.setCell (.inl hp.fp) _).setCell (.inl hp.fp) _).setCell (.inl hp.fp) _, fun _ h => .inl h⟩
  refine ⟨((hr.far (p := ⟨p, 3, none⟩) n1 _).far (p := ⟨p, 4, none⟩) n1 _).far (p := ⟨p, 6, none⟩) n1 _, ((hs.far (p := ⟨p, 3, none⟩) n2 _).far (p := ⟨p, 4, none⟩) n2 _).far (p := ⟨p, 6, none⟩) n2 _, hp.apart, World.ownsRow_nil _ _ _ _, hp.fp, hp.fr, hp.fs, fun g hg => by simp [Value.ownBlock] at hg, fun k hk => ?_, good_crash hp.good ks⟩
  have := hp.lt k hk
  have := ho.size
  simp [World.setCell]; omega
set_option maxHeartbeats 1600000 in
theorem crash_any (w : World) {F : Nat → Prop} {p n : Nat} {x : St} (h : Dv w F p n x) (hk : x.ops ≤ 1000000000000) (A : Option Addr) (c : Nat) (ks : List Int) (hks : Nums w A ks) (hoff : 0 < ks.length → Off F A) (hlen : ks.length ≤ maxLen) :
    Calls Tryz.prog 20 #[.pointer (some ⟨p, 0, none⟩), .slice A ks.length c] w fun e w' => e = .returned (.tuple #[]) ∧ DvOut F w p n (x.crash ks) w' := by
  have hfew := h.good.few
  unfold maxLen at hlen
  obtain ⟨br, cr, bs, cs, hv, hb, hp⟩ := h
  obtain ⟨B, ch, rfl⟩ := own_form hp.held
  have h3 : w.cell? ⟨p, 3, none⟩ = some (.slice B x.held.length ch) := hb.cell 3
  have HB := Lib.hid hb
  have HP := Lib.hid hp
  have HK := Lib.hid hks
  have HF := Lib.hid hoff
  clear hb hp hks hoff
  go_enter Tryz.func20, Tryz.ntmps20
  go_wp2_with (fail)
  go_loopw [16] (fun c wr => CrAt w bs cs x ks c wr) (fun c _ => x.held.length - (intOf c).toNat)
  case atStart => exact ⟨0, rfl, Nat.zero_le _, HP.out.safe, Only.refl _ _⟩
  case round =>
    obtain ⟨k, rfl, hk, hsf, hon⟩ := hrel
    have hbw : Blk wr p 112 (devCells n x br cr bs cs (.slice B x.held.length ch)) := HB.out.only hon (Ne.symm (HP.out.safe.type HB.out (by decide)))
    by_cases hlt : k < x.held.length
    · obtain ⟨g, cur, rfl, hg, ht⟩ := own_some HP.out.held (Nat.lt_of_le_of_lt (Nat.zero_le _) hlt)
      have hat : x.held[k]? = some (x.held[k]'hlt) := List.getElem?_eq_getElem _
      generalize x.held[k]'hlt = a at hat
      obtain ⟨i, s⟩ := a
      have hgw := hg.only hon (fun e => by obtain ⟨cu, hcu, _⟩ := HP.out.safe; exact (hg.apart hcu (by decide)) e)
      obtain ⟨c1, c2⟩ := held_cell hgw ht hat
      obtain ⟨hin, hsz⟩ := HP.out.good.place (i, s) (List.mem_of_getElem? hat)
      have HAT := Lib.hid hat
      have HSF := Lib.hid hsf
      have HON := Lib.hid hon
      have HBW := Lib.hid hbw
      clear hat ht hg hgw hsf hon hbw
      go_upto_if 24 with (fail)
      go_cut [6] (fun s6 wx => s6 = .int .i64 ((kept ks k : Nat) : Int) ∧ wx = wr.alloc (.cells #[.int .i64 (i : Int), .string s] 153))
      case first =>
        by_cases hkk : k < ks.length
        · obtain ⟨kb, ko, rfl, hkc⟩ := HK.out (by omega)
          have hkv : ks[k]? = some (ks[k]'hkk) := List.getElem?_eq_getElem _
          generalize ks[k]'hkk = v at hkv
          have HV := Lib.hid (kept_some hkv)
          have hc0 : wr.cell? ⟨kb, ko + k, none⟩ = some (.int .i64 v) := HON.out.cell (hkc k v hkv) (fun e => HF.out (by omega) _ rfl (by show F kb; rw [show kb = bs from e]; exact HP.out.fs))
          have hlt0 := World.block_lt_of_cell? _ _ hc0
          have hc1 : (wr.alloc (.cells #[.int .i64 (i : Int), .string s] 153)).cell? ⟨kb, ko + k, none⟩ = some (.int .i64 v) := (World.cell?_of_block (Below.heap_alloc wr _ kb hlt0)).trans hc0
          clear hkc hkv hc0 c1 c2
          go_wp2_with (fail)
          all_goals
            go_meet
            exact ⟨by rw [HV.out], rfl⟩
        · have HV := Lib.hid (kept_none (keep := ks) (k := k) (by omega))
          go_wp2_with (fail)
          go_meet
          exact ⟨by rw [HV.out]; rfl, rfl⟩
      case rest =>
        obtain ⟨rfl, rfl⟩ := hcut
        have hkept := kept_le ks k
        generalize hκ : kept ks k = κ at *
        have Hκ := Lib.hid hκ
        clear hκ
        go_wp2_with (fail)
        have hsl : i < (tearN x.safe x.held ks k).length := by rw [tearN_length, HP.out.good.size]; exact hin
        have hold : (tearN x.safe x.held ks k)[i]? = some ((tearN x.safe x.held ks k)[i]'hsl) := List.getElem?_eq_getElem _
        generalize (tearN x.safe x.held ks k)[i]'hsl = old at hold
        have hosz : old.size = 512 := tearN_secs HP.out.good.secs (fun h hh => by rw [HP.out.good.size]; exact HP.out.good.place h hh) k old (List.mem_of_getElem? hold)
        have hszs : s.size = 512 := hsz
        have d0 : (wr.alloc (.cells #[.int .i64 (i : Int), .string s] 153)).cell? ⟨wr.heap.size, 0, none⟩ = some (.int .i64 (i : Int)) := (Blk.new wr 153 _).cell 0
        have d1 : (wr.alloc (.cells #[.int .i64 (i : Int), .string s] 153)).cell? ⟨wr.heap.size, 1, none⟩ = some (.string s) := (Blk.new wr 153 _).cell 1
        have d2 : (wr.alloc (.cells #[.int .i64 (i : Int), .string s] 153)).cell? ⟨p, 2, none⟩ = some (.slice (some ⟨bs, 0, none⟩) n cs) := (HBW.out.alloc _).cell 2
        have d3 : (wr.alloc (.cells #[.int .i64 (i : Int), .string s] 153)).cell? ⟨bs, i, none⟩ = some (.string old) := (HSF.out.alloc _).cell hold
        have d4 : (wr.alloc (.cells #[.int .i64 (i : Int), .string s] 153)).frozen? ⟨bs, i, none⟩ = false := (HSF.out.alloc _).free i
        have HN := Lib.hid (tear_next HAT.out hold)
        have HTX := Lib.hid ((HSF.out.alloc (.cells #[.int .i64 (i : Int), .string s] 153)).put i (mixS κ s old))
        have HOX := Lib.hid ((HON.out.alloc (.cells #[.int .i64 (i : Int), .string s] 153)).setCell (p := ⟨bs, i, none⟩) (.inl rfl) (.string (mixS κ s old)))
        generalize wr.alloc (.cells #[.int .i64 (i : Int), .string s] 153) = w2 at *
        generalize wr.heap.size = B at *
        have k1 : (κ : Int) ≤ s.size := by omega
        have k2 : (κ : Int) ≤ old.size := by omega
        have k3 : ¬ (9223372036854775807 < min κ s.size + (old.size - κ)) := by omega
        have HO2 := Lib.hid hosz
        have HS2 := Lib.hid hszs
        clear hsl c1 c2 hold hosz hszs hsz
        go_region
        go_wp2_with (fail)
        exact ⟨⟨k + 1, by go_num, hlt, by rw [HN.out, Hκ.out]; exact HTX.out, HOX.out.drew⟩, by simp [intOf]; omega⟩
    · obtain rfl : k = x.held.length := by omega
      have h3w : wr.cell? ⟨p, 3, none⟩ = some (.slice B x.held.length ch) := hbw.cell 3
      have HS := Lib.hid (show Txts wr 9 bs cs (x.crash ks).safe from hsf)
      have HR := Lib.hid (HP.out.seen.only hon HP.out.apart)
      have HW := Lib.hid hbw
      have HON := Lib.hid hon
      clear hsf hon hbw
      obtain ⟨wm, rfl⟩ : ∃ wm : World, wm = wr := ⟨_, rfl⟩
      go_wp2_with (fail)
      go_loopw [59] (fun c wr => CrBt wm br cr (x.crash ks).safe x.seen x.held c wr) (fun c _ => x.held.length - (intOf c).toNat)
      case atStart => exact ⟨0, rfl, Nat.zero_le _, HR.out, Only.refl _ _⟩
      case round =>
        obtain ⟨k, rfl, hk, hsf, hon⟩ := hrel
        have hbw : Blk wr p 112 (devCells n x br cr bs cs (.slice B x.held.length ch)) := HW.out.only hon (Ne.symm (HP.out.seen.type HB.out (by decide)))
        have hss : Txts wr 9 bs cs (x.crash ks).safe := HS.out.only hon (Ne.symm HP.out.apart)
        by_cases hlt : k < x.held.length
        · obtain ⟨g, cur, rfl, hg, ht⟩ := own_some HP.out.held (Nat.lt_of_le_of_lt (Nat.zero_le _) hlt)
          have hat : x.held[k]? = some (x.held[k]'hlt) := List.getElem?_eq_getElem _
          generalize x.held[k]'hlt = a at hat
          obtain ⟨i, s⟩ := a
          have hgm := hg.only HON.out (fun e => by obtain ⟨cu, hcu, _⟩ := HP.out.safe; exact (hg.apart hcu (by decide)) e)
          have hgw := hgm.only hon (fun e => by obtain ⟨cu, hcu, _⟩ := HP.out.seen; exact (hg.apart hcu (by decide)) e)
          obtain ⟨c1, c2⟩ := held_cell hgw ht hat
          obtain ⟨hin, _⟩ := HP.out.good.place (i, s) (List.mem_of_getElem? hat)
          have hin : i < n := hin
          have HAT := Lib.hid hat
          have HSF := Lib.hid hsf
          have HO2 := Lib.hid hon
          have HBW := Lib.hid hbw
          have HSS := Lib.hid hss
          clear hat ht hg hgm hgw hsf hon hbw hss
          go_upto_region 12 with (fail)
          have hgc := good_crash HP.out.good ks
          have hsl : i < (x.crash ks).safe.length := by rw [hgc.size]; exact hin
          have hold : (x.crash ks).safe[i]? = some ((x.crash ks).safe[i]'hsl) := List.getElem?_eq_getElem _
          generalize (x.crash ks).safe[i]'hsl = t at hold
          have hrl : i < (backN (x.crash ks).safe x.seen (x.held.take k)).length := by rw [backN_length, seen_length, HP.out.good.size]; exact hin
          have d0 : (wr.alloc (.cells #[.int .i64 (i : Int), .string s] 153)).cell? ⟨wr.heap.size, 0, none⟩ = some (.int .i64 (i : Int)) := (Blk.new wr 153 _).cell 0
          have d1 : (wr.alloc (.cells #[.int .i64 (i : Int), .string s] 153)).cell? ⟨p, 1, none⟩ = some (.slice (some ⟨br, 0, none⟩) n cr) := (HBW.out.alloc _).cell 1
          have d2 : (wr.alloc (.cells #[.int .i64 (i : Int), .string s] 153)).cell? ⟨p, 2, none⟩ = some (.slice (some ⟨bs, 0, none⟩) n cs) := (HBW.out.alloc _).cell 2
          have d3 : (wr.alloc (.cells #[.int .i64 (i : Int), .string s] 153)).cell? ⟨bs, i, none⟩ = some (.string t) := (HSS.out.alloc _).cell hold
          obtain ⟨u0, d4⟩ : ∃ u, (wr.alloc (.cells #[.int .i64 (i : Int), .string s] 153)).cell? ⟨br, i, none⟩ = some u := ⟨_, (HSF.out.alloc _).cell (List.getElem?_eq_getElem hrl)⟩
          have d5 : (wr.alloc (.cells #[.int .i64 (i : Int), .string s] 153)).frozen? ⟨br, i, none⟩ = false := (HSF.out.alloc _).free i
          have HN := Lib.hid (show backN (x.crash ks).safe x.seen (x.held.take (k + 1)) = (backN (x.crash ks).safe x.seen (x.held.take k)).set i t by
            rw [back_next _ _ HAT.out, List.getD_eq_getElem?_getD, hold, Option.getD_some])
          have HTX := Lib.hid ((HSF.out.alloc (.cells #[.int .i64 (i : Int), .string s] 153)).put i t)
          have HOX := Lib.hid ((HO2.out.alloc (.cells #[.int .i64 (i : Int), .string s] 153)).setCell (p := ⟨br, i, none⟩) (.inl rfl) (.string t))
          generalize wr.alloc (.cells #[.int .i64 (i : Int), .string s] 153) = w2 at *
          generalize wr.heap.size = G at *
          clear hsl hrl c1 c2 hold hgc
          go_region
          go_wp2_with (fail)
          exact ⟨⟨k + 1, by go_num, hlt, by rw [HN.out]; exact HTX.out, HOX.out.drew⟩, by simp [intOf]; omega⟩
        · obtain rfl : k = x.held.length := by omega
          have g3 : wr.cell? ⟨p, 3, none⟩ = some (.slice B x.held.length ch) := hbw.cell 3
          have g4 : wr.cell? ⟨p, 4, none⟩ = some (.bool x.armed) := hbw.cell 4
          have g6 : wr.cell? ⟨p, 6, none⟩ = some (.bool x.down) := hbw.cell 6
          have f3 := hbw.free 3
          have f4 := hbw.free 4
          have f6 := hbw.free 6
          rw [List.take_length, crash_seen] at hsf
          have HD := Lib.hid (crash_out HB.out HP.out hsf hss hbw HON.out hon)
          clear hsf hon hbw hss
          go_wp2_with (fail)
          go_end0
          exact ⟨rfl, HD.out⟩
end Go.Proofs.YtglfjlbhjaemgaaGreatDoor
