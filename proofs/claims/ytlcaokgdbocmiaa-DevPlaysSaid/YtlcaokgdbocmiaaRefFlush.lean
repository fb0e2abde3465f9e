/- Flush of the document's device. -/
import Derived.Test.YtlcaokgdbocmiaaRefRead
import Derived.Test.YtlcaokgdbocmiaaDevNew
namespace Go.Proofs.Ytlcaokgdbocmiaa
open Go.RowKit
/-- A row of texts copied whole onto another one. -/
theorem copy_texts (w : World) (ty : TypeId) {g b cg cb n : Nat} {xs ys : List ByteArray} (hd : Txts w 9 g cg ys) (hs : Txts w 9 b cb xs) (hy : ys.length = n) (hx : xs.length = n) :
    ∃ W, (Builtin.copy_ #[53, 53] ty #[.slice (some ⟨g, 0, none⟩) n cg, .slice (some ⟨b, 0, none⟩) n cb]).run Try.prog w = .ok (.int .i64 (n : Int)) W ∧ Txts W 9 g cg xs ∧ Only (its g) w W := by
  obtain ⟨cur, hb, hsz, hle, hm, ht⟩ := hd
  obtain ⟨W, h1, h2, h3⟩ := copy_lay w ty g 0 n cg b 0 n cb cur (xs.map .string) hb (by rw [List.length_map, hx]; exact (Nat.min_self n).symm) (fun i v hi => by
    rw [List.getElem?_map, Option.map_eq_some_iff] at hi
    obtain ⟨s, hs', rfl⟩ := hi
    rw [Nat.zero_add]
    exact hs.cell hs') (by rw [List.length_map]; omega) (fun u hu => by obtain ⟨s, _, rfl⟩ := List.mem_map.1 hu; rfl)
  rw [List.length_map, hx] at h1
  refine ⟨W, h1, ⟨_, h2, ?_, by omega, hm, ?_⟩, h3⟩
  · simp; omega
  · simp only [List.take_zero, List.nil_append]
    rw [List.take_left' (by simp)]
theorem rflush_nil (w : World) : Calls Try.prog 19 #[.pointer none] w fun e w' => e = .returned (.int .i64 1) ∧ w = w' := by
  go_enter Try.func19, Try.ntmps19
  go_wp2
  go_ret
  exact ⟨rfl, rfl⟩
theorem rflush_down (w : World) {F : Nat → Prop} {p n : Nat} {x : St} (h : Rf w F p n x) (hd : x.down = true) :
    Calls Try.prog 19 #[.pointer (some ⟨p, 0, none⟩)] w fun e w' => e = .returned (.int .i64 x.flush.2) ∧ RfOut F w p n x.flush.1 w' := by
  have e : x.flush = (x, 41) := by unfold St.flush; rw [if_pos hd]
  rw [e]
  have HR := Lib.hid (one_down w h hd)
  have H := Lib.hid (RfOut.same h)
  clear h e hd
  go_enter Try.func19, Try.ntmps19
  go_wp2_with (go_at_call 41; refine HR.out.mono ?_; rintro e w' ⟨rfl, rfl⟩)
  go_ret
  exact ⟨rfl, H.out⟩
theorem rflush_due (w : World) {F : Nat → Prop} {p n : Nat} {x : St} (h : Rf w F p n x) (hd : x.down = false) (hu : x.due = true) :
    Calls Try.prog 19 #[.pointer (some ⟨p, 0, none⟩)] w fun e w' => e = .returned (.int .i64 x.flush.2) ∧ RfOut F w p n x.flush.1 w' := by
  have e : x.flush = (x.fall, 41) := by unfold St.flush; rw [if_neg (by simp [hd]), if_pos hu]
  rw [e]
  have HO := Lib.hid (one_due w h hd hu)
  clear h e hd hu
  go_enter Try.func19, Try.ntmps19
  go_wp2_with (fail)
  refine HO.out.mono ?_
  rintro e w1 ⟨rfl, hv⟩
  have H := Lib.hid (RfOut.of hv)
  clear hv
  go_wp2_with (fail)
  go_ret
  exact ⟨rfl, H.out⟩
theorem rflush_out {w1 wr : World} {F : Nat → Prop} {p n : Nat} {x : St} {br cr bs cs : Nat} {hv : Value} (hb : Blk w1 p 67 (refCells n x.oped br cr bs cs hv)) (hp : Parts w1 F 72 n x.oped p br cr bs cs hv)
    (hsf : Txts wr 9 bs cs x.seen) (hon : Only (its bs) w1 wr) : RfOut F w1 p n x.flushed (wr.setCell ⟨p, 2, none⟩ (.slice none 0 0)) := by
  have n1 : br ≠ p := hp.seen.type hb (by decide)
  have n2 : bs ≠ p := hp.safe.type hb (by decide)
  refine ⟨F, ⟨br, cr, bs, cs, .slice none 0 0, (hb.only hon (Ne.symm n2)).put 2 _, ?_⟩, ?_, fun _ h => .inl h⟩
  · refine ⟨?_, hsf.far n2 _, hp.apart, World.ownsRow_nil _ _ _ _, hp.fp, hp.fr, hp.fs, fun g hg => by simp [Value.ownBlock] at hg, fun k hk => ?_, good_flush' hp.good⟩
    · exact (hp.seen.only hon hp.apart).far (p := ⟨p, 2, none⟩) n1 _
    · have := hp.lt k hk
      have := hon.size
      simp [World.setCell]; omega
  · exact (hon.mono fun k hk => by unfold its at hk; rw [hk]; exact hp.fs).setCell (.inl hp.fp) _
theorem Only.of_drew {S : Nat → Prop} {a b : World} (h : Only S a.drew b) : Only S a b := ⟨h.os, h.tape, h.output, h.size, h.block⟩
set_option maxHeartbeats 800000 in
theorem rflush_ok (w : World) {F : Nat → Prop} {p n : Nat} {x : St} (h : Rf w F p n x) (hd : x.down = false) (hu : x.due = false) (hk : x.ops ≤ 1000000000000) :
    Calls Try.prog 19 #[.pointer (some ⟨p, 0, none⟩)] w fun e w' => e = .returned (.int .i64 x.flush.2) ∧ RfOut F w p n x.flush.1 w' := by
  have e : x.flush = (x.flushed, 0) := by unfold St.flush; rw [if_neg (by simp [hd]), if_neg (by simp [hu])]
  rw [e]
  have HO := Lib.hid (one_ok w h hd hu (by omega))
  clear h e hd hu hk
  go_enter Try.func19, Try.ntmps19
  go_wp2_with (fail)
  refine HO.out.mono ?_
  rintro e w1 ⟨rfl, ⟨br, cr, bs, cs, hv, hb, hp⟩, ho1⟩
  have h0 : w1.cell? ⟨p, 0, none⟩ = some (.slice (some ⟨bs, 0, none⟩) n cs) := hb.cell 0
  have h1 : w1.cell? ⟨p, 1, none⟩ = some (.slice (some ⟨br, 0, none⟩) n cr) := hb.cell 1
  have hls : x.oped.safe.length = n := hp.good.size
  obtain ⟨W, hcp, hW, hOn⟩ := copy_texts w1.drew 3 hp.safe hp.seen hls ((seen_length _).trans hls)
  have n2 : bs ≠ p := hp.safe.type hb (by decide)
  have hbW : Blk W p 67 (refCells n x.oped br cr bs cs hv) := Blk.only (w := w1) hb hOn.of_drew (Ne.symm n2)
  have g2 : W.cell? ⟨p, 2, none⟩ = some hv := hbW.cell 2
  have f2 := hbW.free 2
  have HX := Lib.hid (rflush_out hb hp hW hOn.of_drew)
  have HO1 := Lib.hid ho1
  clear hb hp ho1 hls hW hOn hbW
  go_wp2_with (fail)
  go_region
  go_wp2_with (fail)
  go_ret
  exact ⟨rfl, RfOut.trans HO1.out (fun _ h => .inl h) HX.out⟩
end Go.Proofs.Ytlcaokgdbocmiaa
