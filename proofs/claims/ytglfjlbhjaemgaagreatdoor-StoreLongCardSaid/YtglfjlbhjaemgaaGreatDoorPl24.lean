/- The texts that stand in a half. A journal is opened. -/
import Derived.Test.YtglfjlbhjaemgaaGreatDoorPl23
import Derived.RegionTactic
import Derived.Deep.RegionLaw
namespace Go.Proofs.YtglfjlbhjaemgaaGreatDoor
open Go.RowKit
/-- Frames one behind the other. -/
def framesS (n : Nat) : List ByteArray → ByteArray
  | [] => ⟨#[]⟩
  | t :: ts => putS n t ++ framesS (n + 1) ts
def usedS (ts : List ByteArray) : Nat := (ts.map fun t => secF t.size).sum
theorem usedS_nil : usedS [] = 0 := rfl
theorem usedS_cons (t : ByteArray) (ts : List ByteArray) : usedS (t :: ts) = secF t.size + usedS ts := by simp [usedS]
theorem usedS_snoc (ts : List ByteArray) (t : ByteArray) : usedS (ts ++ [t]) = usedS ts + secF t.size := by simp [usedS]
theorem framesS_size (n : Nat) (ts : List ByteArray) : (framesS n ts).size = 512 * usedS ts := by
  induction ts generalizing n with
  | nil => rfl
  | cons t ts ih => rw [framesS, ByteArray.size_append, putS_size, ih, usedS_cons]; omega
theorem framesS_snoc (n : Nat) (ts : List ByteArray) (t : ByteArray) : framesS n (ts ++ [t]) = framesS n ts ++ putS (n + ts.length) t := by
  induction ts generalizing n with
  | nil => show putS n t ++ (⟨#[]⟩ : ByteArray) = (⟨#[]⟩ : ByteArray) ++ putS (n + 0) t; apply bytes_ext; simp
  | cons a ts ih => rw [List.cons_append, framesS, ih, framesS, List.length_cons, ByteArray.append_assoc, show n + 1 + ts.length = n + (ts.length + 1) by omega]
theorem usedS_take_le (ts : List ByteArray) (k : Nat) : usedS (ts.take k) ≤ usedS ts := by
  have := usedS_nil
  unfold usedS
  have e : ts.map (fun t => secF t.size) = (ts.take k).map (fun t => secF t.size) ++ (ts.drop k).map (fun t => secF t.size) := by rw [← List.map_append, List.take_append_drop]
  rw [e, List.sum_append]
  omega
theorem len_used (ts : List ByteArray) : ts.length ≤ usedS ts := by
  induction ts with
  | nil => simp
  | cons t ts ih =>
    rw [List.length_cons, usedS_cons]
    have : 1 ≤ secF t.size := by unfold secF; omega
    omega
/-- What a text comes to in a loop over it: the frames from number k on, and the rest. -/
def fromK (n0 : Nat) (ts : List ByteArray) (r : ByteArray) (k : Nat) : ByteArray := framesS (n0 + k) (ts.drop k) ++ r
theorem fromK_next {n0 : Nat} {ts : List ByteArray} {r : ByteArray} {k : Nat} {t : ByteArray} (h : ts[k]? = some t) : fromK n0 ts r k = putS (n0 + k) t ++ fromK n0 ts r (k + 1) := by
  have hl : k < ts.length := (List.getElem?_eq_some_iff.1 h).1
  unfold fromK
  rw [List.drop_eq_getElem_cons hl, (List.getElem?_eq_some_iff.1 h).2, framesS, ByteArray.append_assoc]
  rfl
theorem fromK_cut {n0 : Nat} {ts : List ByteArray} {r : ByteArray} {k : Nat} {t : ByteArray} (h : ts[k]? = some t) : (fromK n0 ts r k).extract (512 * secF t.size) (fromK n0 ts r k).size = fromK n0 ts r (k + 1) := by
  rw [fromK_next h]
  have e : (putS (n0 + k) t).size = 512 * secF t.size := putS_size _ _
  rw [extR _ _ _ _ (by omega), ByteArray.size_append, e]
  rw [show 512 * secF t.size - 512 * secF t.size = 0 by omega, show 512 * secF t.size + (fromK n0 ts r (k + 1)).size - 512 * secF t.size = (fromK n0 ts r (k + 1)).size by omega]
  exact ByteArray.extract_zero_size
def TxAt (w : World) (n0 : Nat) (ts : List ByteArray) (r : ByteArray) (H : Nat) (num half recs : Nat) (s lv uv c : Value) (wr : World) : Prop :=
  ∃ k : Nat, c = .int .u64 (k : Int) ∧ k ≤ ts.length ∧ s = .string (fromK n0 ts r k) ∧ uv = .int .i64 (usedS (ts.take k) : Int) ∧ Recs wr lv (ts.take k) ∧ (∀ g, lv.ownBlock = some g → w.heap.size + 1 ≤ g) ∧ Below w.heap.size w wr ∧
    Blk wr H 232 #[.int .u64 (num : Int), .int .i64 (half : Int), .int .i64 (recs : Int)] ∧ H < wr.heap.size
set_option maxRecDepth 100000 in
set_option maxHeartbeats 1600000 in
theorem texts_ok (w : World) (ht : Tab w) (n0 half recs : Nat) (ts : List ByteArray) (r : ByteArray) (hl : ts.length = recs + 1) (hs : ∀ t ∈ ts, t.size ≤ 65536) (hn : n0 + recs < 1000000000000) (hz : (fromK n0 ts r 0).size ≤ 100000000) :
    Calls Tryz.prog 173 #[.string (fromK n0 ts r 0), headV (n0 + recs) half recs] w fun e w' => ∃ v, e = .returned (.tuple #[v, .int .i64 (usedS ts : Int), .bool true]) ∧ Recs w' v ts ∧ (∀ g, v.ownBlock = some g → w.heap.size ≤ g) ∧ Below w.heap.size w w' := by
  have hbN := Blk.new w 232 #[.int .u64 ((n0 + recs : Nat) : Int), .int .i64 (half : Int), .int .i64 (recs : Int)]
  have hB := (Below.refl w.heap.size w).alloc (Nat.le_refl _) (.cells #[.int .u64 ((n0 + recs : Nat) : Int), .int .i64 (half : Int), .int .i64 (recs : Int)] 232)
  have hul := len_used ts
  have hus : usedS ts * 512 ≤ (fromK n0 ts r 0).size := by unfold fromK; rw [ByteArray.size_append, framesS_size, List.drop_zero]; omega
  obtain ⟨num, hnum⟩ : ∃ m, m = n0 + recs := ⟨_, rfl⟩
  rw [← hnum] at hbN hB ⊢
  have HB := Lib.hid hbN
  have HE := Lib.hid hB
  have HNum := Lib.hid hnum
  have hw1 : IntKind.u64.wrap (recs : Int) = (recs : Int) := by rw [IntKind.wrap_u64]; omega
  have hw2 : IntKind.u64.wrap ((recs : Int) + 1) = (recs : Int) + 1 := by rw [IntKind.wrap_u64]; omega
  have hw3 : IntKind.u64.wrap ((num : Int) - (recs : Int)) = (n0 : Int) := by rw [IntKind.wrap_u64]; omega
  have hnn : num < 1000000000000 := by omega
  have lh : w.heap.size < (w.alloc (.cells #[.int .u64 (num : Int), .int .i64 (half : Int), .int .i64 (recs : Int)] 232)).heap.size := by simp
  have LH := Lib.hid lh
  have c2 := hbN.cell 2
  clear hbN hB hnum lh
  go_enter Tryz.func173, Tryz.ntmps173
  go_wp2_with (fail)
  go_loopw [0, 4, 5, 18] (fun s lv uv c wr => TxAt w n0 ts r w.heap.size num half recs s lv uv c wr) (fun _ _ _ c _ => recs + 1 - (intOf c).toNat)
  case atStart => exact ⟨0, rfl, Nat.zero_le _, rfl, rfl, recs_nil _, fun g hg => by simp [Value.ownBlock] at hg, HE.out, HB.out, LH.out⟩
  case round =>
    obtain ⟨k, rfl, hk, rfl, rfl, hrec, hown, hbel, hh, hlt0⟩ := hrel
    by_cases hlt : k < recs + 1
    · obtain ⟨t, hkt⟩ : ∃ t, ts[k]? = some t := ⟨_, List.getElem?_eq_getElem (by omega)⟩
      have hx : (k : Int) < (recs : Int) + 1 := by omega
      have htz := hs t (List.mem_of_getElem? hkt)
      have hgv := (put_of (n0 + k) t (fromK n0 ts r (k + 1)) (by omega) htz).got htz
      rw [← fromK_next hkt] at hgv
      have hcut := fromK_cut (n0 := n0) (r := r) hkt
      have hszk : (fromK n0 ts r k).size = 512 * secF t.size + (fromK n0 ts r (k + 1)).size := by rw [fromK_next hkt, ByteArray.size_append, putS_size]
      have hu1 : usedS (ts.take (k + 1)) = usedS (ts.take k) + secF t.size := by rw [List.take_add_one, hkt]; exact usedS_snoc _ _
      have hu2 := usedS_take_le ts (k + 1)
      have htk : ts.take (k + 1) = ts.take k ++ [t] := by rw [List.take_add_one, hkt]; rfl
      have htl : (ts.take k).length = k := by rw [List.length_take]; omega
      have hfz : (fromK n0 ts r k).size ≤ 100000000 := by
        have e1 : (fromK n0 ts r k).size = 512 * usedS (ts.drop k) + r.size := by unfold fromK; rw [ByteArray.size_append, framesS_size]
        have e2 : (fromK n0 ts r 0).size = 512 * usedS ts + r.size := by unfold fromK; rw [ByteArray.size_append, framesS_size, List.drop_zero]
        have e3 : usedS ts = usedS (ts.take k) + usedS (ts.drop k) := by unfold usedS; rw [← List.sum_append, ← List.map_append, List.take_append_drop]
        omega
      have HG := Lib.hid (fun v (hb : Below w.heap.size w v) => get_any (fromK n0 ts r k) v (by unfold maxLen; omega) (ht.below hb))
      rw [hgv] at HG
      have HCut := Lib.hid hcut
      have HTK := Lib.hid htk
      have HTL := Lib.hid htl
      have HUU := Lib.hid hu1
      have HR := Lib.hid hrec
      have HO := Lib.hid hown
      have HBE := Lib.hid hbel
      have HH := Lib.hid hh
      have LT := Lib.hid hlt0
      have h0 : wr.cell? ⟨w.heap.size, 0, none⟩ = some (.int .u64 (num : Int)) := hh.cell 0
      clear hrec hown hbel hh hlt0 hcut htk htl hgv
      generalize fromK n0 ts r k = f at *
      generalize hSd : secF t.size = sn at *
      generalize usedS (ts.take k) = uk at *
      have z1 : ((512 * sn : Nat) : Int) = 512 * (sn : Int) := by omega
      have z2 : IntKind.u64.wrap ((n0 : Int) + (k : Int)) = (n0 : Int) + (k : Int) := by rw [IntKind.wrap_u64]; omega
      have z3 : (512 * (sn : Int)).tdiv 512 = (sn : Int) := by rw [Int.tdiv_eq_ediv_of_nonneg (by omega)]; omega
      have z4 : IntKind.i64.wrap (sn : Int) = (sn : Int) := i64w _ (by omega)
      have z5 : IntKind.i64.wrap ((uk : Int) + (sn : Int)) = (uk : Int) + (sn : Int) := i64w _ (by omega)
      have z6 : (0 : Int) ≤ 512 * (sn : Int) := by omega
      have z7 : 512 * (sn : Int) ≤ (f.size : Int) := by omega
      have z8 : (512 * (sn : Int)).toNat = 512 * sn := by omega
      have z9 : IntKind.u64.wrap ((k : Int) + 1) = (k : Int) + 1 := by rw [IntKind.wrap_u64]; omega
      clear hSd hu1 hszk hkt htz
      go_wp2_with (fail)
      refine (HG.out _ HBE.out).mono ?_; rintro e w1 ⟨rfl, hb1⟩
      have d0 := (hb1.cell (p := ⟨w.heap.size, 0, none⟩) LT.out).trans h0
      have R1 := Lib.hid (HR.out.keep fun g hg => hb1.block g (HR.out.lt g hg))
      have B1 := Lib.hid (HBE.out.trans (hb1.mono HBE.out.size))
      have H1 := Lib.hid (HH.out.below hb1 LT.out)
      have L1 := Lib.hid (Nat.lt_of_lt_of_le LT.out hb1.size)
      clear hb1
      go_upto_region 8 with (fail)
      obtain ⟨la, lc, hlv⟩ := R1.out.form
      rw [HTL.out] at hlv
      subst hlv
      have hRa : Recs (w1.drew.alloc (.cells #[.string t] 9)) (.slice la k lc) (ts.take k) := R1.out.keep fun g hg => Below.heap_alloc _ _ g (R1.out.lt g hg)
      have HRa := Lib.hid hRa
      clear hRa
      go_region_law (first
        | (refine step_text (by rfl) (.tmp 40) (.tmp 42) (by rfl) (.slice la k lc) (ts.take k) (by rfl) HRa.out w1.heap.size t (by rfl) ((Blk.new w1.drew 9 #[.string t]).cell 0) (by have := HTL.out; omega) ?_
           intro A6 c6 w6 hR6 hg6 hv6
           rw [HTL.out] at hR6 hv6 ⊢
           have R6 := Lib.hid hR6
           have V6 := Lib.hid hv6
           have G6 := Lib.hid hg6
           clear hR6 hg6 hv6))
      all_goals (
        have hB6 : Below w.heap.size w w6 := by
          have b2 : Below w.heap.size w (w1.drew.alloc (.cells #[.string t] 9)) := (B1.out.drew).alloc B1.out.size _
          exact ⟨G6.out.os.trans b2.os, G6.out.tape.trans b2.tape, G6.out.output.trans b2.output, Nat.le_trans b2.size G6.out.size, fun i hi => (G6.out.block i (Nat.lt_of_lt_of_le hi b2.size) (fun e => by have := HO.out i e.symm; omega)).trans (b2.block i hi)⟩
        have hH6 : Blk w6 w.heap.size 232 #[.int .u64 (num : Int), .int .i64 (half : Int), .int .i64 (recs : Int)] := ((H1.out.drew).alloc (.cells #[.string t] 9)).grown G6.out (fun e => by have := HO.out _ e.symm; omega)
        have hO6 : ∀ g, (Value.slice A6 (k + 1) c6).ownBlock = some g → w.heap.size + 1 ≤ g := by
          intro g hg
          rcases V6.out with e | e
          · exact HO.out g (e ▸ hg)
          · rw [hg] at e
            have e := Option.some.inj e
            have := L1.out
            have h3 : g = w1.heap.size + 1 := e.trans (by simp)
            omega
        have HB6 := Lib.hid hB6
        have HH6 := Lib.hid hH6
        have HO6 := Lib.hid hO6
        clear hB6 hH6 hO6
        go_wp2_with (fail)
        go_roundw
        case rel => exact ⟨k + 1, by go_num, by omega, congrArg Value.string HCut.out, by rw [HUU.out]; go_num, by rw [HTK.out]; exact R6.out, HO6.out, HB6.out, HH6.out, HH6.out.lt⟩
        case measure => simp [intOf]; omega)
    · obtain rfl : k = recs + 1 := by omega
      have hfull : ts.take (recs + 1) = ts := by rw [← hl]; exact List.take_length
      rw [hfull] at hrec ⊢
      have HR := Lib.hid hrec
      have HO := Lib.hid hown
      have HBE := Lib.hid hbel
      have hx : ¬ (((recs + 1 : Nat) : Int)) < (recs : Int) + 1 := by omega
      clear hrec hown hbel hh
      go_wp2_with (fail)
      refine bodyPost_ret (results_tmp3 rfl _ _ _) rfl ?_
      exact ⟨u4, rfl, HR.out, fun g hg => Nat.le_of_succ_le (HO.out g hg), HBE.out⟩
theorem ustore_any (w : World) (p o : Nat) (u : Value) (k : Nat) (h : w.cell? ⟨p, o, none⟩ = some u) (hz : w.frozen? ⟨p, o, none⟩ = false) :
    Calls Tryz.prog 174 #[.pointer (some ⟨p, o, none⟩), .int .u64 (k : Int)] w fun e w' => e = .returned (.tuple #[]) ∧ w.setCell ⟨p, o, none⟩ (.int .u64 (k : Int)) = w' := by
  have hst := run_call_store (P := Tryz.prog) Tryz.func196 (by kernel_rfl) (by kernel_rfl) (by kernel_rfl) (by kernel_rfl) (k := .u64) (y := (k : Int)) h hz
  go_enter Tryz.func174, Tryz.ntmps174
  go_wp2
  go_end0
  exact ⟨rfl, rfl⟩
theorem ld_world (w : World) (p fr se n half recs : Nat) : ∀ w0, w0 = (w.alloc (Obj.cells #[Value.pointer (some ⟨p, 0, none⟩), Value.int IntKind.i64 ↑fr, Value.int IntKind.i64 ↑se] 214)).alloc (Obj.cells #[Value.int IntKind.u64 ↑n, Value.int IntKind.i64 ↑half, Value.int IntKind.i64 ↑recs] 232) →
    Blk w0 w.heap.size 214 #[Value.pointer (some ⟨p, 0, none⟩), Value.int IntKind.i64 ↑fr, Value.int IntKind.i64 ↑se] ∧ Blk w0 (w.heap.size + 1) 232 #[Value.int IntKind.u64 ↑n, Value.int IntKind.i64 ↑half, Value.int IntKind.i64 ↑recs] ∧ Below w.heap.size w w0 ∧ w0.heap.size = w.heap.size + 2 := sec_world w p fr se n half recs
/-- The journal of what was read. -/
def Jn.read (fr se num half : Nat) (t : ByteArray) (ts : List ByteArray) : Jn := { fr := fr, se := se, num := num, half := half, used := usedS (t :: ts), base := t, recs := ts, unfit := false }
/-- The records behind the base. -/
theorem recs_tail {w : World} {g o c n : Nat} {t : ByteArray} {ts : List ByteArray} (h : Recs w (.slice (some ⟨g, o, none⟩) n c) (t :: ts)) :
    ∃ o2, (if c = 1 then some (⟨g, o, none⟩ : Addr) else some ⟨g, o + 1, none⟩) = some ⟨g, o2, none⟩ ∧ Recs w (.slice (some ⟨g, o2, none⟩) ts.length (c - 1)) ts := by
  rcases h with ⟨e, _⟩ | ⟨g', o', c', cur, e, hb, h1, h2, h3, h4⟩
  · cases e
  · injection e with e1 e2 e3
    have e1 := Option.some.inj e1
    have eg : g = g' := congrArg Addr.block e1
    have eo : o = o' := by cases e1; rfl
    subst eg; subst eo; subst e3
    rw [List.length_cons] at h2
    by_cases hc : c = 1
    · have hts : ts = [] := List.eq_nil_of_length_eq_zero (by omega)
      subst hts
      exact ⟨o, by rw [if_pos hc], .inr ⟨g, o, c - 1, cur, rfl, hb, by omega, Nat.zero_le _, by omega, by simp⟩⟩
    · refine ⟨o + 1, by rw [if_neg hc], .inr ⟨g, o + 1, c - 1, cur, rfl, hb, by omega, by omega, by omega, ?_⟩⟩
      have h5 := congrArg List.tail h4
      rw [List.map_cons, List.tail_cons] at h5
      rw [← h5, ← List.drop_one, List.drop_take, List.drop_drop, List.length_cons]
      rw [show ts.length + 1 - 1 = ts.length by omega]
/-- A journal that was just laid out of what was read. -/
theorem read_jd {w w7 : World} {F : Nat → Prop} {p n fr se half : Nat} {x : St} {t : ByteArray} {ts : List ByteArray} {v : Value} (h : Dv w F p n x) (ht : Tab w) (hF : ¬ F gTab) (hb : Below w.heap.size w w7) (hv : Recs w7 v ts) (ho : ∀ g, v.ownBlock = some g → w.heap.size ≤ g) :
    JD (w7.alloc (.cells #[.pointer (some ⟨p, 0, none⟩), .int .i64 (fr : Int), .int .i64 (se : Int), .int .u64 0, .int .i64 (half : Int), .int .i64 (usedS (t :: ts) : Int), .string t, v, .bool false] 216)) (fun k => F k ∨ k = w7.heap.size ∨ v.ownBlock = some k) p w7.heap.size n x { Jn.read fr se 0 half t ts with num := 0 } := by
  have hlt := h.lt
  have hb2 := hb.alloc hb.size (.cells #[.pointer (some ⟨p, 0, none⟩), .int .i64 (fr : Int), .int .i64 (se : Int), .int .u64 0, .int .i64 (half : Int), .int .i64 (usedS (t :: ts) : Int), .string t, v, .bool false] 216)
  have hsz := hb.size
  have hvl := hv.lt
  refine ⟨⟨F, fun k => k = w7.heap.size ∨ v.ownBlock = some k, h.keep (S := nobody) (Only.of_below hb2) (fun _ _ => id), ⟨v, Blk.new w7 216 _, hv.keep fun g hg => Below.heap_alloc w7 _ g (hvl g hg), .inl rfl, fun g hg => .inr hg, fun k hk => ?_⟩, fun k hk hk' => ?_, fun k hk => .inl hk, fun k hk => .inr hk⟩, fun k hk => ?_, ht.below hb2, fun hk => ?_⟩
  · rcases hk with rfl | hk
    · simp
    · have := hvl k hk; simp; omega
  · have := hlt k hk
    rcases hk' with rfl | hk'
    · omega
    · have := ho k hk'; omega
  · rcases hk with hk | rfl | hk
    · have := hlt k hk; simp; omega
    · simp
    · have := hvl k hk; simp; omega
  · have hp := ht.pos
    have e : gTab = 1 := rfl
    rcases hk with hk | hk | hk
    · exact hF hk
    · omega
    · have := ho _ hk; omega
set_option maxRecDepth 100000 in
set_option maxHeartbeats 1600000 in
theorem load_ok (w : World) {F : Nat → Prop} {p n : Nat} {x : St} (h : Dv w F p n x) (ht : Tab w) (hF : ¬ F gTab) (fr se : Nat) (h8 : 8 ≤ se) (hn : fr + se ≤ n) (hd : x.down = false) (n0 half : Nat) (hh : half ≤ 1) (t : ByteArray) (ts : List ByteArray) (r : ByteArray)
    (hc : catS (part x.seen (halfAt fr se half) (hsz se)) = fromK n0 (t :: ts) r 0) (hs : ∀ s ∈ t :: ts, s.size ≤ 65536) (hnn : n0 + ts.length < 1000000000000) (hu : usedS (t :: ts) ≤ hsz se) :
    Calls Tryz.prog 134 #[area p fr se, headV (n0 + ts.length) half ts.length] w (MadeJn F w p n x (Jn.read fr se (n0 + ts.length) half t ts)) := by
  have hm := h.good.most
  have hzz : hsz se = (se - 4) / 2 := rfl
  have hroom : halfAt fr se half + hsz se ≤ n := by
    have : half * hsz se ≤ 1 * hsz se := Nat.mul_le_mul_right _ hh
    unfold halfAt
    omega
  have hsl : x.seen.length = n := (seen_length x).trans h.good.size
  have hfz : (fromK n0 (t :: ts) r 0).size ≤ 100000000 := by
    rw [← hc, catS_size (fun s hs => seen_secs h.good s (part_mem hs)), part_length (by omega)]
    omega
  obtain ⟨num, hnum⟩ : ∃ m, m = n0 + ts.length := ⟨_, rfl⟩
  have hT := fun v (hb : Below w.heap.size w v) => texts_ok v (ht.below hb) n0 half ts.length (t :: ts) r rfl hs hnn hfz
  rw [← hnum] at hT ⊢
  obtain ⟨b1, b2, hB, hs0⟩ := ld_world w p fr se num half ts.length _ rfl
  have hr : ∀ v, Below w.heap.size w v → Calls Tryz.prog 79 #[.pointer (some ⟨p, 0, none⟩), .int .i64 (halfAt fr se half : Int), .int .i64 (hsz se : Int)] v fun e w' => e = .returned (.tuple #[.string (fromK n0 (t :: ts) r 0), .int .i64 0]) ∧ Below v.heap.size v w' := fun v hb => by
    rw [← hc]
    exact read_ok v (h.keep (S := nobody) (Only.of_below hb) (fun _ _ => id)) (halfAt fr se half) (hsz se) (why_ok (by omega) hd)
  have HT := Lib.hid hT
  have HR := Lib.hid hr
  have HSZ := Lib.hid (fun v => size_area v p fr se h8 (by omega))
  have HHF := Lib.hid (fun v => half_area v p fr se half h8 (by omega) hh)
  have A0 := Lib.hid b1
  have N0 := Lib.hid b2
  have B0 := Lib.hid hB
  have HD := Lib.hid h
  have HTab := Lib.hid ht
  have HFar := Lib.hid hF
  have HU := Lib.hid hu
  clear hT hr hc h ht hF hu hfz hsl hroom hnum
  generalize fromK n0 (t :: ts) r 0 = f at *
  generalize hq : halfAt fr se half = hf at *
  generalize hq2 : hsz se = hz at *
  clear hq hq2
  go_enter Tryz.func134, Tryz.ntmps134
  go_upto_region 1 with (fail)
  generalize hw0 : (w.alloc (Obj.cells #[Value.pointer (some ⟨p, 0, none⟩), Value.int IntKind.i64 ↑fr, Value.int IntKind.i64 ↑se] 214)).alloc (Obj.cells #[Value.int IntKind.u64 ↑num, Value.int IntKind.i64 ↑half, Value.int IntKind.i64 ↑ts.length] 232) = w0 at *
  clear hw0
  have hla := A0.out.lt
  have hln := N0.out.lt
  obtain ⟨C, hCd⟩ : ∃ C : World → Prop, C = fun v => Below w0.heap.size w0 v := ⟨_, rfl⟩
  have HC0 : Hid (C w0.drew) := Lib.hid (by rw [hCd]; exact belDrew _ _ 1)
  have HCi : Hid (∀ v, C v → Below w0.heap.size w0 v) := Lib.hid (fun v h => by rw [hCd] at h; exact h)
  have HCw : Hid (∀ v, C v → Below w.heap.size w v) := Lib.hid (fun v h => B0.out.trans ((HCi.out v h).mono B0.out.size))
  have HCm : Hid (∀ v v', C v → Below v.heap.size v v' → C v') := Lib.hid (fun v v' h hb => by rw [hCd] at h ⊢; exact h.trans (hb.mono h.size))
  have HL : Hid (∀ v, C v → v.cell? ⟨w.heap.size, 0, none⟩ = some (.pointer (some ⟨p, 0, none⟩)) ∧ v.cell? ⟨w.heap.size, 1, none⟩ = some (.int .i64 fr) ∧ v.cell? ⟨w.heap.size, 2, none⟩ = some (.int .i64 se) ∧ v.cell? ⟨w.heap.size + 1, 0, none⟩ = some (.int .u64 num) ∧ v.cell? ⟨w.heap.size + 1, 1, none⟩ = some (.int .i64 half) ∧ v.cell? ⟨w.heap.size + 1, 2, none⟩ = some (.int .i64 ts.length)) :=
    Lib.hid (fun v h => by
      have ha := A0.out.below (HCi.out v h) hla
      have hn := N0.out.below (HCi.out v h) hln
      exact ⟨ha.cell 0, ha.cell 1, ha.cell 2, hn.cell 0, hn.cell 1, hn.cell 2⟩)
  clear hCd
  refine wp_region_class C (by kernel_rfl) (by kernel_rfl) HC0.out ?_
  go_big_quiet_want
  go_big_quiet_op
  first | go_big_quiet_on | (refine ⟨_, fun _ _ => rfl, ?_⟩; go_big_quiet_on)
  go_big_quiet_want
  refine quiet_run (v := .pointer (some ⟨p, 0, none⟩)) (fun v hv => by obtain ⟨c0, c1, c2, d0, d1, d2⟩ := HL.out v hv; go_simp) ?_
  simp only [Act.put, List.setIfInBounds_toArray, List.set_cons_zero, List.set_cons_succ]
  go_big_quiet_on
  go_big_quiet_want
  refine quiet_run (v := area p fr se) (fun v hv => by obtain ⟨c0, c1, c2, d0, d1, d2⟩ := HL.out v hv; go_simp) ?_
  simp only [Act.put, List.setIfInBounds_toArray, List.set_cons_zero, List.set_cons_succ]
  go_big_quiet_on
  go_big_quiet_want
  go_big_quiet_op
  first | go_big_quiet_on | (refine ⟨_, fun _ _ => rfl, ?_⟩; go_big_quiet_on)
  go_big_quiet_want
  refine quiet_run (v := .int .i64 half) (fun v hv => by obtain ⟨c0, c1, c2, d0, d1, d2⟩ := HL.out v hv; go_simp) ?_
  simp only [Act.put, List.setIfInBounds_toArray, List.set_cons_zero, List.set_cons_succ]
  go_big_quiet_on
  go_big_quiet_want
  refine quiet_call (f := 172) (args := #[area p fr se, .int .i64 half]) (fun v _ => by go_simp) (fun v hv => (HHF.out v).mono (fun e w' h => ⟨h.1, HCm.out v w' hv h.2⟩)) ?_
  simp only [Act.put, List.setIfInBounds_toArray, List.set_cons_zero, List.set_cons_succ]
  go_big_quiet_on
  go_big_quiet_want
  refine quiet_run (v := area p fr se) (fun v hv => by obtain ⟨c0, c1, c2, d0, d1, d2⟩ := HL.out v hv; go_simp) ?_
  simp only [Act.put, List.setIfInBounds_toArray, List.set_cons_zero, List.set_cons_succ]
  go_big_quiet_on
  go_big_quiet_want
  refine quiet_call (f := 159) (args := #[area p fr se]) (fun v _ => by go_simp) (fun v hv => (HSZ.out v).mono (fun e w' h => ⟨h.1, HCm.out v w' hv h.2⟩)) ?_
  simp only [Act.put, List.setIfInBounds_toArray, List.set_cons_zero, List.set_cons_succ]
  go_big_quiet_on
  go_big_quiet_want
  refine quiet_call (f := 79) (args := #[.pointer (some ⟨p, 0, none⟩), .int .i64 hf, .int .i64 hz]) (fun v _ => by go_simp) (fun v hv => (HR.out v (HCw.out v hv)).mono (fun e w' h => ⟨h.1, HCm.out v w' hv h.2⟩)) ?_
  simp only [Act.put, List.setIfInBounds_toArray, List.set_cons_zero, List.set_cons_succ]
  go_big_quiet_on
  go_big_quiet_want
  go_big_quiet_op
  first | go_big_quiet_on | (refine ⟨_, fun _ _ => rfl, ?_⟩; go_big_quiet_on)
  go_big_quiet_want
  go_big_quiet_op
  first | go_big_quiet_on | (refine ⟨_, fun _ _ => rfl, ?_⟩; go_big_quiet_on)
  go_big_quiet_want
  go_big_quiet_op
  first | go_big_quiet_on | (refine ⟨_, fun _ _ => rfl, ?_⟩; go_big_quiet_on)
  go_big_quiet_want
  go_big_quiet_op
  first | go_big_quiet_on | (refine ⟨_, fun _ _ => rfl, ?_⟩; go_big_quiet_on)
  go_big_quiet_want
  go_big_quiet_op
  first | go_big_quiet_on | (refine ⟨_, fun _ _ => rfl, ?_⟩; go_big_quiet_on)
  refine wpQuiet_nil ?_
  intro w5 hC5
  obtain ⟨c0, c1, c2, d0, d1, d2⟩ := HL.out _ hC5
  have B5 := Lib.hid (HCw.out _ hC5)
  have A5 := Lib.hid (A0.out.below (HCi.out _ hC5) hla)
  have N5 := Lib.hid (N0.out.below (HCi.out _ hC5) hln)
  clear hC5 HC0 HCi HCw HCm HL
  go_wp2_with (fail)
  refine (HT.out _ B5.out).mono ?_; rintro e w6 ⟨v, rfl, hrec, hown, hb6⟩
  have A6 := Lib.hid (A5.out.below hb6 A5.out.lt)
  have N6 := Lib.hid (N5.out.below hb6 N5.out.lt)
  have B6 := Lib.hid (B5.out.trans (hb6.mono B5.out.size))
  have O6 := Lib.hid (fun g hg => Nat.le_trans B5.out.size (hown g hg))
  obtain ⟨la, lc, rfl⟩ := hrec.form
  have R6 := Lib.hid hrec
  clear hrec hown hb6 c0 c1 c2 d0 d1 d2
  obtain ⟨g, o, rfl, hct⟩ := R6.out.cell (j := 0) (s := t) rfl
  have hlc : (t :: ts).length ≤ lc := by
    rcases R6.out with ⟨e, _⟩ | ⟨g', o', c', cur, e, _, _, h3, _⟩
    · cases e
    · injection e with _ _ e; omega
  rw [List.length_cons] at hlc
  have i1 : (0 : Int) < (ts.length : Int) + 1 := by omega
  have i2 : (1 : Int) ≤ (ts.length : Int) + 1 := by omega
  have i3 : (1 : Int) ≤ (lc : Int) := by omega
  have i4 : (ts.length : Int) + 1 ≤ (lc : Int) := by omega
  have a0 := A6.out.cell 0
  have a1 := A6.out.cell 1
  have a2 := A6.out.cell 2
  have n0' := N6.out.cell 0
  have n1 := N6.out.cell 1
  have n2 := N6.out.cell 2
  simp at a0 a1 a2 n0' n1 n2
  rw [Nat.add_zero] at hct
  go_upto_region 7 with (fail)
  go_still_tail 10, (by kernel_rfl)
  trace_state
  change wpList _ _ _ _ _ w6.drew
  have R7 := Lib.hid (R6.out.keep (w' := w6.drew) fun g hg => rfl)
  have B7 := Lib.hid B6.out.drew
  have N7 := Lib.hid N6.out.drew
  generalize w6.drew = w7 at R7 B7 N7 ⊢
  obtain ⟨o2, hif, hr2⟩ := recs_tail R7.out
  have hO7 : ∀ g', (Value.slice (some ⟨g, o2, none⟩) ts.length (lc - 1)).ownBlock = some g' → w.heap.size ≤ g' := fun g' hg' => O6.out g' hg'
  have J8 := Lib.hid (read_jd (fr := fr) (se := se) (half := half) (t := t) HD.out HTab.out HFar.out B7.out hr2 hO7)
  have HO7 := Lib.hid hO7
  have HR2 := Lib.hid hr2
  have m0 := N7.out.cell 0
  simp at m0
  have lm := N7.out.lt
  have e0 := (World.cell?_of_block (Below.heap_alloc w7 (.cells #[.pointer (some ⟨p, 0, none⟩), .int .i64 (fr : Int), .int .i64 (se : Int), .int .u64 0, .int .i64 (half : Int), .int .i64 (usedS (t :: ts) : Int), .string t, .slice (some ⟨g, o2, none⟩) ts.length (lc - 1), .bool false] 216) (w.heap.size + 1) lm) : _).trans m0
  have b8 := Blk.new w7 216 #[.pointer (some ⟨p, 0, none⟩), .int .i64 (fr : Int), .int .i64 (se : Int), .int .u64 0, .int .i64 (half : Int), .int .i64 (usedS (t :: ts) : Int), .string t, .slice (some ⟨g, o2, none⟩) ts.length (lc - 1), .bool false]
  have k3 : _ = some (Value.int .u64 0) := b8.cell 3
  have y3 := b8.free 3
  have HB8 := Lib.hid (B7.out.alloc B7.out.size (.cells #[.pointer (some ⟨p, 0, none⟩), .int .i64 (fr : Int), .int .i64 (se : Int), .int .u64 0, .int .i64 (half : Int), .int .i64 (usedS (t :: ts) : Int), .string t, .slice (some ⟨g, o2, none⟩) ts.length (lc - 1), .bool false] 216))
  clear a0 a1 a2 n0' n1 n2 hct A6 N6 hr2 hO7 b8 m0
  go_upto_region 8 with (fail)
  generalize hw8 : w7.alloc (.cells #[.pointer (some ⟨p, 0, none⟩), .int .i64 (fr : Int), .int .i64 (se : Int), .int .u64 0, .int .i64 (half : Int), .int .i64 (usedS (t :: ts) : Int), .string t, .slice (some ⟨g, o2, none⟩) ts.length (lc - 1), .bool false] 216) = w8 at *
  clear hw8
  go_still_tail 5, (by kernel_rfl)
  change wpList _ _ _ _ _ w8.drew
  have J9 := Lib.hid (J8.out.drew.set 3 (.int .u64 (num : Int)) (Jn.read fr se num half t ts) (fun _ => by simp [jCells, Jn.read]) rfl)
  have k3' : w8.drew.cell? ⟨w7.heap.size, 3, none⟩ = some (.int .u64 0) := k3
  have y3' : w8.drew.frozen? ⟨w7.heap.size, 3, none⟩ = false := y3
  have BD := Lib.hid HB8.out.drew
  clear e0 k3 y3
  go_wp2_with (fail)
  refine (ustore_any _ w7.heap.size 3 _ num k3' y3').mono ?_; rintro e w9 ⟨rfl, hw9⟩
  have J10 := Lib.hid (hw9 ▸ J9.out)
  clear hw9 k3' y3'
  go_wp2_with (fail)
  go_ret2
  obtain ⟨S, hj, ho, hg⟩ := J10.out
  have hB := BD.out
  refine ⟨w7.heap.size, S, rfl, hj, ⟨ho.os.trans hB.os, ho.tape.trans hB.tape, ho.output.trans hB.output, Nat.le_trans hB.size ho.size, fun k hk hf => ?_⟩, fun k hk => ?_⟩
  · rw [ho.block k (Nat.lt_of_lt_of_le hk hB.size) (fun h' => by
      rcases h' with h' | h' | h'
      · exact hf h'
      · have := B7.out.size; omega
      · have := HO7.out k h'; omega)]
    exact hB.block k hk
  · rcases hg k hk with (h1 | h1 | h1) | h1
    · exact .inl h1
    · exact .inr (by have := B7.out.size; omega)
    · exact .inr (HO7.out k h1)
    · exact .inr (Nat.le_trans hB.size h1)
theorem o3x {F S : Nat → Prop} {w w2 w3 w4 : World} (ho : Only F w2 w3) (hg : Grew F w2 S) (h : Only S w3 w4) (hb : Below w.heap.size w w2) : Only F w w4 :=
  ⟨h.os.trans (ho.os.trans hb.os), h.tape.trans (ho.tape.trans hb.tape), h.output.trans (ho.output.trans hb.output), Nat.le_trans hb.size (Nat.le_trans ho.size h.size), fun k hk hf => by
    have h2 : k < w2.heap.size := Nat.lt_of_lt_of_le hk hb.size
    rw [h.block k (Nat.lt_of_lt_of_le h2 ho.size) (fun hs => (hg k hs).elim hf (fun h' => by omega)), ho.block k h2 hf]
    exact hb.block k hk⟩
theorem g3x {F S S4 : Nat → Prop} {w w2 w3 : World} (hg : Grew F w2 S) (h : Grew S w3 S4) (ho : Only F w2 w3) (hb : Below w.heap.size w w2) : Grew F w S4 := fun k hk => by
  rcases h k hk with h1 | h1
  · rcases hg k h1 with h2 | h2
    · exact .inl h2
    · exact .inr (Nat.le_trans hb.size h2)
  · exact .inr (Nat.le_trans hb.size (Nat.le_trans ho.size h1))
set_option maxRecDepth 100000 in
set_option maxHeartbeats 1600000 in
theorem open_ok (w : World) {F : Nat → Prop} {p n : Nat} {x : St} (h : Dv w F p n x) (ht : Tab w) (hF : ¬ F gTab) (fr se : Nat) (h8 : 8 ≤ se) (hn : fr + se ≤ n) (hd : x.down = false) (n0 half : Nat) (hh : half ≤ 1) (t : ByteArray) (ts : List ByteArray) (r : ByteArray)
    (hb : bestOf fr se (part x.seen fr 4) 4 = (n0 + ts.length, half, ts.length)) (hp0 : 0 < n0 + ts.length) (hc : catS (part x.seen (halfAt fr se half) (hsz se)) = fromK n0 (t :: ts) r 0) (hs : ∀ s ∈ t :: ts, s.size ≤ 65536) (hnn : n0 + ts.length < 1000000000000) (hu : usedS (t :: ts) ≤ hsz se) (hk : x.ops ≤ 100000000000)
    (hfl : x.flsh.2 = true) :
    Calls Tryz.prog 76 #[.pointer (some ⟨p, 0, none⟩), .int .i64 (fr : Int), .int .i64 (se : Int)] w (MadeJn F w p n x.flsh.1 (Jn.read fr se (n0 + ts.length) half t ts)) := by
  have hm := h.good.most
  have hb0 := (Below.refl w.heap.size w).alloc (Nat.le_refl _) (.cells #[.pointer (some ⟨p, 0, none⟩), .int .i64 (fr : Int), .int .i64 (se : Int)] 214)
  have D0 := Lib.hid (fun v (hv : Below w.heap.size w v) => h.keep (S := nobody) (Only.of_below hv) (fun _ _ => id))
  have HFT := Lib.hid (fun v (hv : Below w.heap.size w v) => fits_area v (D0.out v hv) (fr : Int) (se : Int) (by omega))
  rw [show fitsB n fr se = true from decide_eq_true ⟨by omega, by omega, by omega⟩] at HFT
  have HLs := Lib.hid (fun v (hv : Below w.heap.size w v) => last_ok v (D0.out v hv) fr se h8 hn hd)
  have HLd := Lib.hid (fun v (hv : Below w.heap.size w v) => load_ok v (D0.out v hv) (ht.below hv) hF fr se h8 hn hd n0 half hh t ts r hc hs hnn hu)
  obtain ⟨num, hnum⟩ : ∃ m, m = n0 + ts.length := ⟨_, rfl⟩
  rw [hb] at HLs
  rw [show lastV (n0 + ts.length, half, ts.length) = .tuple #[headV (n0 + ts.length) half ts.length, .int .i64 0] by unfold lastV; rw [if_neg (by show ¬ n0 + ts.length = 0; omega)]] at HLs
  rw [← hnum] at HLs HLd ⊢
  have A0 := Lib.hid (Blk.new w 214 #[.pointer (some ⟨p, 0, none⟩), .int .i64 (fr : Int), .int .i64 (se : Int)])
  have B0 := Lib.hid hb0
  have HK := Lib.hid hk
  have HFL := Lib.hid hfl
  clear h hb0 hb hc hs hu hk hfl hnum ht hF hp0 hnn
  obtain ⟨j, hj⟩ : ∃ j, j = Jn.read fr se num half t ts := ⟨_, rfl⟩
  rw [← hj] at HLd ⊢
  have hu0 : j.unfit = false := by rw [hj]; rfl
  clear hj
  go_enter Tryz.func76, Tryz.ntmps76
  go_wp2_with (fail)
  refine (HFT.out _ B0.out).mono ?_; rintro e w1 ⟨rfl, hb1⟩
  have A1 := Lib.hid (A0.out.below hb1 A0.out.lt)
  have a0 := A1.out.cell 0
  have a1 := A1.out.cell 1
  have a2 := A1.out.cell 2
  simp at a0 a1 a2
  have B1 := Lib.hid (B0.out.trans (hb1.mono B0.out.size))
  clear hb1 A0
  go_wp2_with (fail)
  refine (HLs.out _ B1.out).mono ?_; rintro e w2 ⟨rfl, hb2⟩
  have A2 := Lib.hid ((A1.out.below hb2 A1.out.lt).alloc (.cells #[.int .u64 (num : Int), .int .i64 (half : Int), .int .i64 (ts.length : Int)] 232))
  have B2 := Lib.hid ((B1.out.trans (hb2.mono B1.out.size)).alloc (Nat.le_trans B1.out.size hb2.size) (.cells #[.int .u64 (num : Int), .int .i64 (half : Int), .int .i64 (ts.length : Int)] 232))
  have c0 : _ = some (Value.pointer (some ⟨p, 0, none⟩)) := A2.out.cell 0
  have c1 : _ = some (Value.int .i64 (fr : Int)) := A2.out.cell 1
  have c2 : _ = some (Value.int .i64 (se : Int)) := A2.out.cell 2
  clear hb2 A1 a0 a1 a2
  go_wp2_with (fail)
  refine (HLd.out _ B2.out).mono ?_; rintro e w3 ⟨q, S3, rfl, d3, o3, g3⟩
  have D3 := Lib.hid d3
  have O3 := Lib.hid o3
  have G3 := Lib.hid g3
  clear d3 o3 g3 c0 c1 c2
  go_wp2_with (fail)
  refine (jflush_fit _ D3.out hu0 (by have := HK.out; omega)).mono ?_; rintro e w4 ⟨rfl, hv⟩
  rw [HFL.out] at hv ⊢
  obtain ⟨S4, d4, o4, g4⟩ := hv
  rw [fit_same hu0] at d4
  have D4 := Lib.hid d4
  have O4 := Lib.hid (o3x O3.out G3.out o4 B2.out)
  have G4 := Lib.hid (g3x G3.out g4 O3.out B2.out)
  clear d4 o4 g4
  rw [show wrCode true = 0 from rfl]
  go_wp2_with (fail)
  go_ret2
  exact ⟨q, S4, rfl, D4.out, O4.out, G4.out⟩
end Go.Proofs.YtglfjlbhjaemgaaGreatDoor
