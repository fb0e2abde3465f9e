/- Hosts. -/
import Derived.Test.YtacogfllnhopoaaUnK
import Derived.Deep.AppendLies
import Derived.Sort.KeysCollected
namespace Go.Proofs.Ytacogfllnhopoaa
open Go.RowKit Go.Maps Go.Sort
/-- Texts in the order of their bytes. -/
def srt (hs : List ByteArray) : List ByteArray := ((hs.map fun h => h.data.toList).mergeSort leB).map fun l => ⟨l.toArray⟩
theorem srt_perm (hs : List ByteArray) : (srt hs).Perm hs := by
  unfold srt
  have h1 := (List.mergeSort_perm (hs.map fun h => h.data.toList) leB).map (fun l => (⟨l.toArray⟩ : ByteArray))
  rw [List.map_map] at h1
  have h2 : ((fun l : List UInt8 => (⟨l.toArray⟩ : ByteArray)) ∘ fun h : ByteArray => h.data.toList) = id := by
    funext h
    cases h
    simp
  rw [h2, List.map_id] at h1
  exact h1
theorem srt_length (hs : List ByteArray) : (srt hs).length = hs.length := (srt_perm hs).length_eq
theorem srt_asc (hs : List ByteArray) : (srt hs).Pairwise (fun a b => a.data.toList ≤ b.data.toList) := by
  unfold srt
  rw [List.pairwise_map]
  have tr : ∀ a b c : List UInt8, leB a b = true → leB b c = true → leB a c = true := fun a b c h1 h2 => by simp only [leB, decide_eq_true_eq] at *; exact List.le_trans h1 h2
  have to : ∀ a b : List UInt8, (leB a b || leB b a) = true := fun a b => by simp only [leB, Bool.or_eq_true, decide_eq_true_eq]; exact List.le_total a b
  exact (List.pairwise_mergeSort tr to _).imp fun {a b} h => by simpa [leB] using h
theorem Met.all {f : PF} {l : Int} {es : Array MapEntry} {seen : Array Nat} {hs : List ByteArray} (h : Met f l es seen hs) (hc : ∀ l h, f l h ≠ [] → ∃ e ∈ es.toList, e.key = kv l h) (hd : ∀ e ∈ es.toList, seen.contains e.born = true) : HostsOf f l (srt hs) :=
  ⟨srt_asc hs, (srt_perm hs).nodup_iff.2 h.once, fun x => by
    rw [(srt_perm hs).mem_iff]
    refine ⟨h.some x, fun hn => ?_⟩
    obtain ⟨e, h1, h2⟩ := hc l x hn
    exact (h.met e h1 x h2).1 (hd e h1)⟩
theorem map_enc (hs : List ByteArray) : hs.map Value.string = (hs.map fun h => h.data.toList).map encStr := by
  rw [List.map_map]
  apply List.map_congr_left
  intro h _
  cases h
  simp [encStr]
theorem sort_any (w : World) {B n c : Nat} {A : Option Addr} {hs : List ByteArray} (hrow : w.ownsRow B 9 1 (.slice A n c) n (hs.map .string)) (hn : n ≤ 2000000) :
    Calls Try.prog 29 #[.slice A n c] w fun e w' => e = .returned (.tuple #[]) ∧ w.grownBy w' (Value.slice A n c).ownBlock ∧ w'.ownsRow B 9 1 (.slice A n c) n ((srt hs).map .string) := by
  have hlen : hs.length = n := by simpa using hrow.1
  rcases Nat.eq_zero_or_pos n with h0 | h0
  · obtain rfl : hs = [] := List.length_eq_zero_iff.1 (by omega)
    subst h0
    refine (Try.slices_Sort_string_none A c w).mono ?_
    rintro e w' ⟨rfl, rfl⟩
    exact ⟨rfl, ⟨rfl, rfl, rfl, Nat.le_refl _, fun _ _ _ => rfl⟩, by rw [show srt [] = [] by simp [srt]]; exact hrow⟩
  · have hr := hrow
    rw [map_enc] at hr
    rcases hr.2 with ⟨h1, h2⟩ | ⟨g, cap, cur, he, hb, hg, h1, h2, h3, h4⟩
    · omega
    · cases he
      have hll : (hs.map fun h => h.data.toList).length = n := by rw [List.length_map, hlen]
      have hH : Holds encStr w g 0 (hs.map fun h => h.data.toList).toArray := holds_of_block hg (by rw [hll]; simpa using h4)
      have hc := Try.slices_Sort_string g 0 c (hs.map fun h => h.data.toList) w hH (Array.getElem?_eq_some_iff.1 hg).1 (by omega)
      rw [hll] at hc
      refine hc.mono ?_
      rintro e w' ⟨rfl, m, os, rfl⟩
      refine ⟨rfl, grownBy_sorted _, ?_⟩
      have := ownsRow_sorted (n := m) (os := os) (ss := hs.map fun h => h.data.toList) (ts := (hs.map fun h => h.data.toList).mergeSort leB) (by simp) hb hg (by omega) h2 h3
      rw [hll] at this
      have e2 : (srt hs).map Value.string = ((hs.map fun h => h.data.toList).mergeSort leB).map encStr := by
        unfold srt
        rw [List.map_map]
        rfl
      rw [e2]
      exact this
theorem infoStr : (Try.prog.info? 9).map (fun i => (i.zero, i.size, i.bytes)) = some (some (.string ⟨#[]⟩), 1, 16) := by kernel_rfl
theorem Met.start (f : PF) (l : Int) (es : Array MapEntry) : Met f l es #[] [] := ⟨List.nodup_nil, by simp, fun e _ h _ => by simp⟩
theorem Met.step {w : World} {b clock : Nat} {f : PF} {l : Int} {es : Array MapEntry} {seen : Array Nat} {hs : List ByteArray} (h : Met f l es seen hs) (hmp : Mp w b es clock) {e : MapEntry} (hin : e ∈ es.toList) (hs' : seen.contains e.born = false) {x : ByteArray} (hk : e.key = kv l x) (hf : f l x ≠ []) : Met f l es (seen.push e.born) (hs ++ [x]) := by
  have hx : x ∉ hs := fun hh => by
    have := (h.met e hin x hk).2 hh
    rw [hs'] at this
    cases this
  refine ⟨List.nodup_append.2 ⟨h.once, by simp, fun a ha b hb => by rw [List.mem_singleton.1 hb]; exact fun e => hx (e ▸ ha)⟩, fun y hy => ?_, fun e' hin' y hy => ?_⟩
  · rcases List.mem_append.1 hy with h1 | h1
    · exact h.some y h1
    · rw [List.mem_singleton.1 h1]; exact hf
  · rw [contains_push, Bool.or_eq_true, List.mem_append, List.mem_singleton, h.met e' hin' y hy]
    refine or_congr Iff.rfl ⟨fun hb => ?_, fun hb => ?_⟩
    · have := born_inj hmp.nodup hin' hin (by simpa using hb)
      subst this
      exact (kv_inj (hy.symm.trans hk)).2
    · subst hb
      rw [hmp.one hin' hin (hy.trans hk.symm)]
      simp
theorem Met.skip {f : PF} {l l' : Int} {es : Array MapEntry} {seen : Array Nat} {hs : List ByteArray} (h : Met f l es seen hs) (hm : (es.toList.map (·.born)).Nodup) {e : MapEntry} (hin : e ∈ es.toList) {x : ByteArray} (hk : e.key = kv l' x) (hne : ¬ l' = l) : Met f l es (seen.push e.born) hs := by
  refine ⟨h.once, h.some, fun e' hin' y hy => ?_⟩
  rw [contains_push, Bool.or_eq_true, h.met e' hin' y hy]
  refine ⟨fun hb => hb.elim id fun hb => ?_, .inl⟩
  have := born_inj hm hin' hin (by simpa using hb)
  subst this
  exact absurd (kv_inj (hk.symm.trans hy)).1 hne
/-- What stands between two rounds of the range. -/
def HAt (w wr : World) (b r clock : Nat) (es : Array MapEntry) (f : PF) (l : Int) (hs : List ByteArray) (A : Option Addr) (c : Nat) (seen : Array Nat) : Prop :=
  Mp wr b es clock ∧ It wr b r clock seen ∧ Met f l es seen hs ∧ wr.ownsRow w.heap.size 9 1 (.slice A hs.length c) hs.length (hs.map .string) ∧ Below w.heap.size w wr
set_option maxHeartbeats 1000000 in
theorem hosts_any (w : World) {F : Nat → Prop} {p : Nat} {f : PF} (hU : Un w F p f) (l : Int) {m : Nat} (hs : Small f m) (hm : m ≤ 1000000) :
    Calls Try.prog 17 #[.pointer (some ⟨p, 0, none⟩), .int .i64 l] w fun e w' => ∃ A c hl, e = .returned (.slice A hl.length c) ∧ HostsOf f l hl ∧ Below w.heap.size w w' ∧ w'.ownsRow w.heap.size 9 1 (.slice A hl.length c) hl.length (hl.map .string) := by
  obtain ⟨b, h1, h2, h3, h4, ⟨es, clock, hmp, he, hc, ha⟩, h6⟩ := hU
  have HM := Lib.hid hmp; have HE := Lib.hid he; have HC := Lib.hid hc; have HF := Lib.hid h6; have HS := Lib.hid hs; have HMM := Lib.hid hm
  have hp := h1.cell 0
  have hrg := run_range_map (P := Try.prog) w 47 52 41 b es clock Try.underlying47 hmp.here
  obtain ⟨i0, hi0, hz0, hz1, hz2⟩ := info_parts infoStr
  clear hmp he hc h6 h1 h2 h3 h4 ha hs hm
  go_enter Try.func17, Try.ntmps17
  go_wp2
  clear hrg hp
  have HB0 := Lib.hid (show Below w.heap.size w (w.alloc (.mapIter (some b) clock #[] clock)) from (Below.refl _ _).alloc (Nat.le_refl _) _)
  have HM0 := Lib.hid (HM.keep (Below.heap_alloc w (.mapIter (some b) clock #[] clock) b HM.lt))
  have HI0 := Lib.hid (show It (w.alloc (.mapIter (some b) clock #[] clock)) b w.heap.size clock #[] from ⟨clock, Nat.le_refl _, heap_alloc_new w _⟩)
  go_loopw [5] (fun v wr => ∃ seen hs A c, v = .slice A (List.length hs) c ∧ HAt w wr b w.heap.size clock es f l hs A c seen) (fun _ wr => wr.rangeLeft b w.heap.size)
  case atStart => exact ⟨#[], [], none, 0, rfl, HM0, HI0, Met.start _ _ _, ⟨rfl, .inl ⟨rfl, rfl⟩⟩, HB0⟩
  case round =>
    obtain ⟨seen, hs, A, c, rfl, hm1, hi1, hmt, hrow, hb1⟩ := hrel
    have hlen := HS.out.len hmt.once hmt.some
    have HLN := Lib.hid (show hs.length ≤ 1000000 from Nat.le_trans hlen HMM.out)
    have HMT := Lib.hid hmt; have HRW := Lib.hid hrow; have HB1 := Lib.hid hb1; have HM1 := Lib.hid hm1; have HI1 := Lib.hid hi1
    have HLE := Lib.hid (hi1.left hm1)
    rcases hi1.next hm1 0 with ⟨hd, hr⟩ | ⟨e, hin, hsn, w1, hr, hm2, hi2, ho2, hlt, hen⟩
    · have HH := Lib.hid (hmt.all HC hd)
      have HSO := Lib.hid (sort_any wr hrow (Nat.le_trans HLN (by omega)))
      clear hm1 hi1 hmt hrow hb1 hlen hd HM0 HI0 HB0
      go_wp2_with (go_at_call 29; refine HSO.out.mono ?_; rintro e w' ⟨rfl, hg, hrow⟩; have HG := Lib.hid hg; have HR := Lib.hid hrow; clear hg hrow)
      go_ret
      refine ⟨A, c, srt hs, by rw [srt_length]; rfl, HH.out, HB1.out.grown HG.out HB1.out.size (fun j hj => (HRW.out.lt j hj).1), ?_⟩
      rw [srt_length]
      exact HR.out
    · obtain ⟨l', h', g, c', k1, k2, k3, k4, k5⟩ := HE e hin
      have HHS := Lib.hid (show h'.size ≤ 281474976710656 from Nat.le_trans (nameB_size (HF l' h' k3).2.2.1) (by omega))
      have HM2 := Lib.hid hm2; have HI2 := Lib.hid hi2; have HO2 := Lib.hid ho2; have HLT := Lib.hid hlt
      have HNE := Lib.hid (hi1.ne hm1)
      have HR2 := Lib.hid (own_keep hrow (w' := w1) (fun k hk => ho2.block k (hrow.lt k hk).2 (fun e => by
        subst e
        obtain ⟨c0, _, hit⟩ := hi1
        rcases hrow.2 with ⟨e1, _⟩ | ⟨g', cap, cur, e1, _, hg, _⟩
        · rw [e1] at hk; simp [Value.ownBlock] at hk
        · rw [e1] at hk
          have : g' = w.heap.size := by simpa [Value.ownBlock] using hk
          rw [this, hit] at hg
          cases hg)))
      have HB2 := Lib.hid (show Below w.heap.size w w1 from ⟨ho2.os.trans hb1.os, ho2.tape.trans hb1.tape, ho2.output.trans hb1.output, Nat.le_trans hb1.size ho2.size, fun k hk => (ho2.block k (Nat.lt_of_lt_of_le hk hb1.size) (by omega)).trans (hb1.block k hk)⟩)
      have HST := Lib.hid (show ∀ v : World, Mp v b es clock → It v b w.heap.size clock (seen.push e.born) → v.rangeLeft b w.heap.size < wr.rangeLeft b w.heap.size from fun v hv hi => by rw [hi.left hv, HLE.out]; exact HLT.out)
      rw [k1, k2] at hr hen
      unfold kv at hr hen
      by_cases hll : l' = l
      · subst hll
        have HMS := Lib.hid (hmt.step HM.out hin hsn k1 k3)
        clear hm1 hi1 hmt hrow hb1 hlen hm2 hi2 ho2 hlt HM0 HI0 HB0 k1 k2 k3 k4 k5 hin hsn
        have HB3 := Lib.hid (show Below w.heap.size w (w1.alloc (.cells #[.int .i64 l', .string h'] 52)) from HB2.alloc HB2.size _)
        have HM3 := Lib.hid (show Mp (w1.alloc (.cells #[.int .i64 l', .string h'] 52)) b es clock from HM2.keep (Below.heap_alloc _ _ _ HM2.lt))
        have HI3 := Lib.hid (show It (w1.alloc (.cells #[.int .i64 l', .string h'] 52)) b w.heap.size clock (seen.push e.born) from HI2.keep (Below.heap_alloc _ _ _ HI2.lt))
        have HR3 := Lib.hid (show (w1.alloc (.cells #[.int .i64 l', .string h'] 52)).ownsRow w.heap.size 9 1 (.slice A hs.length c) hs.length (hs.map .string) from own_keep HR2 (fun k hk => Below.heap_alloc _ _ k (HR2.lt k hk).2))
        have hlw := HB2.out.size
        have HLW := Lib.hid hlw
        clear hlw HR2 HI2 HM2
        go_wp2_with (first
          | (go_at_call 28; refine (sclone_any h' _ HHS.out).mono ?_; rintro e4 w4 ⟨rfl, hb4⟩
             have HB4 := Lib.hid (HB3.out.trans (hb4.mono HB3.out.size))
             have HM4 := Lib.hid (HM3.out.keep (hb4.block b HM3.out.lt))
             have HI4 := Lib.hid (HI3.out.keep (hb4.block _ HI3.out.lt))
             have HR4 := Lib.hid (own_keep HR3.out (fun k hk => hb4.block k (HR3.out.lt k hk).2))
             have HX := Lib.hid (cell_one_new w4 (.string h') 9)
             have HR5 := Lib.hid (show (w4.alloc (.cells #[.string h'] 9)).ownsRow w.heap.size 9 1 (.slice A hs.length c) hs.length (hs.map .string) from own_keep HR4 (fun k hk => Below.heap_alloc _ _ k (HR4.lt k hk).2))
             have HBZ := Lib.hid (show w.heap.size ≤ (w4.alloc (.cells #[.string h'] 9)).heap.size from by have := HB4.out.size; simp; omega)
             have HL1 := Lib.hid (show hs.length + 1 ≤ maxLen by have := HLN.out; unfold maxLen; omega)
             have HL2 := Lib.hid (show (hs.length + 1) * 16 ≤ 140737488355328 by have := HLN.out; omega)
             clear hb4)
          | (at_builtin; refine wpList_append_lies _ rfl (.tmp 22) (.tmp 26) 37 rfl w.heap.size 9 i0 _ 1 16 Try.underlying37 hi0 hz0 hz1 hz2 rfl (by omega) (.slice A hs.length c) hs.length (hs.map .string) rfl HR5.out ⟨w4.heap.size, 0, none⟩ 1 1 [.string h'] rfl rfl HX.out (fun u hu => by rw [List.mem_singleton.1 hu]; rfl) (by omega) HL1.out HL2.out HBZ.out _ rfl ?_
             intro g cap w5 hown hgr hge hglt
             have HOW := Lib.hid hown; have HGR := Lib.hid hgr
             clear hown hgr hge hglt))
        go_roundw
        case rel =>
          have hgo : Below w.heap.size w w5 := (HB4.out.alloc HB4.out.size _).grown HGR.out HBZ.out (fun j hj => (HR5.out.lt j hj).1)
          have hob : ∀ k, k < w4.heap.size → (∃ (m : Obj), w4.heap[k]? = some m ∧ ∀ cs t z, m ≠ .cells cs t z) → w5.heap[k]? = w4.heap[k]? := fun k hk hmm => by
            refine (HGR.out.block k (by simp; omega) (fun e1 => ?_)).trans (Below.heap_alloc _ _ k hk)
            obtain ⟨m, hm, hne⟩ := hmm
            rcases HR4.out.2 with ⟨e2, _⟩ | ⟨g', cap', cur, e2, _, hg, _⟩
            · rw [e2] at e1; simp [Value.ownBlock] at e1
            · rw [e2] at e1
              have : k = g' := by simpa [Value.ownBlock] using e1
              rw [this, hg] at hm
              exact hne _ _ _ (Option.some.inj hm).symm
          have hm5 := HM4.out.keep (hob b HM4.out.lt ⟨_, HM4.out.here, fun cs t z => by simp⟩)
          have hi5 := HI4.out.keep (hob w.heap.size HI4.out.lt (by obtain ⟨c0, _, h2⟩ := HI4.out; exact ⟨_, h2, fun cs t z => by simp⟩))
          exact ⟨seen.push e.born, hs ++ [h'], some ⟨g, 0, none⟩, cap, by simp, hm5, hi5, HMS, by simpa using HOW.out, hgo⟩
        case measure =>
          have hob : ∀ k, k < w4.heap.size → (∃ (m : Obj), w4.heap[k]? = some m ∧ ∀ cs t z, m ≠ .cells cs t z) → w5.heap[k]? = w4.heap[k]? := fun k hk hmm => by
            refine (HGR.out.block k (by simp; omega) (fun e1 => ?_)).trans (Below.heap_alloc _ _ k hk)
            obtain ⟨m, hm, hne⟩ := hmm
            rcases HR4.out.2 with ⟨e2, _⟩ | ⟨g', cap', cur, e2, _, hg, _⟩
            · rw [e2] at e1; simp [Value.ownBlock] at e1
            · rw [e2] at e1
              have : k = g' := by simpa [Value.ownBlock] using e1
              rw [this, hg] at hm
              exact hne _ _ _ (Option.some.inj hm).symm
          exact HST _ (HM4.out.keep (hob b HM4.out.lt ⟨_, HM4.out.here, fun cs t z => by simp⟩)) (HI4.out.keep (hob w.heap.size HI4.out.lt (by obtain ⟨c0, _, h2⟩ := HI4.out; exact ⟨_, h2, fun cs t z => by simp⟩)))
      · have hne : (l' == l) = false := by simpa using hll
        have HMS := Lib.hid (hmt.skip HM.nodup hin k1 hll)
        clear hm1 hi1 hmt hrow hb1 hlen hm2 hi2 ho2 hlt HM0 HI0 HB0 k1 k2 k3 k4 k5 hin hsn hll
        go_wp2
        go_roundw
        case rel => exact ⟨seen.push e.born, hs, A, c, rfl, HM2.keep (Below.heap_alloc _ _ _ HM2.lt), HI2.keep (Below.heap_alloc _ _ _ HI2.lt), HMS, own_keep HR2 (fun k hk => Below.heap_alloc _ _ k (HR2.lt k hk).2), HB2.alloc HB2.size _⟩
        case measure => exact HST _ (HM2.keep (Below.heap_alloc _ _ _ HM2.lt)) (HI2.keep (Below.heap_alloc _ _ _ HI2.lt))
end Go.Proofs.Ytacogfllnhopoaa
