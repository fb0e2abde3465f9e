/- New of the document's device. -/
import Derived.Test.YtlcaokgdbocmiaaRefCrash
import Derived.Test.YtlcaokgdbocmiaaDevKeep
import Derived.Test.YtlcaokgdbocmiaaDevDuo
import Derived.Deep.RegionLaw
import Derived.Deep.RegionHeld3
namespace Go.Proofs.Ytlcaokgdbocmiaa
open Go.RowKit
theorem rnew_bad (w : World) (n : Int) (h : n < 1 ∨ 8192 < n) : Calls Try.prog 9 #[.int .i64 n] w fun e w' => e = .returned (.tuple #[.pointer none, .int .i64 1]) ∧ w = w' := by
  rcases h with h | h
  · go_enter Try.func9, Try.ntmps9
    go_wp2
    go_ret2
    exact ⟨rfl, rfl⟩
  · have h' : ¬ n < 1 := by omega
    go_enter Try.func9, Try.ntmps9
    go_wp2
    go_ret2
    exact ⟨rfl, rfl⟩
def newCells (sv qv : Value) : Array Value := #[sv, qv, .slice none 0 0, .int .i64 0, .bool false, .int .i64 0, .bool false]
/-- The device that is being made: k sectors are laid. -/
structure NewMid (z : ByteArray) (B : Nat) (w : World) (d k : Nat) (sv qv : Value) (wr : World) : Prop where
  dev : Blk wr d 67 (newCells sv qv)
  lo : B ≤ d
  s : wr.ownsRow B 9 1 sv k ((List.replicate k (z)).map .string)
  q : wr.ownsRow B 9 1 qv k ((List.replicate k (z)).map .string)
  apart : ∀ g, sv.ownBlock = some g → qv.ownBlock ≠ some g
  below : Below B w wr
def RnAt (z : ByteArray) (B : Nat) (w : World) (d n : Nat) (c : Value) (wr : World) : Prop := ∃ (k : Nat) (A A' : Option Addr) (c1 c2 : Nat), c = .int .i64 (k : Int) ∧ k ≤ n ∧ NewMid z B w d k (.slice A k c1) (.slice A' k c2) wr
theorem step_app {ops : Array Oper} {o : Oper} {a : Act} {w : World} {K : Act → World → Prop} {Q : Exit → Act → World → Prop} {E : Prop} (hgd : o.guard = none) (s x : Operand)
    (ho : o.op = .call { callee := .builtin .append, args := #[s, x], argTypes := #[53, 53] }) (B n : Nat) (v : Value) (xs : List Value) (hs : a.eval s = v) (hown : w.ownsRow B 9 1 v n xs)
    (g : Nat) (z : ByteArray) (hx : a.eval x = .slice (some ⟨g, 0, none⟩) 1 1) (hc : w.cell? ⟨g, 0, none⟩ = some (.string z)) (hn : n ≤ 8192) (hB : B ≤ w.heap.size)
    (h : ∀ A c w', w'.ownsRow B 9 1 (.slice A (n + 1) c) (n + 1) (xs ++ [.string z]) → w.grownBy w' v.ownBlock → ((Value.slice A (n + 1) c).ownBlock = v.ownBlock ∨ (Value.slice A (n + 1) c).ownBlock = some w.heap.size) → K (a.put o.dst (.slice A (n + 1) c)) w') :
    if Region.wanted o (yielded ops a.tmps) = true then Oper.wp Try.prog o a w K Q else E := by
  have hw : Region.wanted o (yielded ops a.tmps) = true := by simp [Region.wanted, hgd]
  rw [if_pos hw]
  obtain ⟨i0, hi0, hz0, hz1, hz2⟩ := info_parts info9
  obtain ⟨v', w', hr, h2, h3, _, h5⟩ := run_append_own_at (P := Try.prog) w B 53 o.type 9 i0 _ 1 16 Try.underlying53 hi0 hz0 hz1 hz2 rfl (by omega) v n xs hown ⟨g, 0, none⟩ 1 1 [.string z] rfl (by
    intro j u hj
    match j, hj with
    | 0, hj => simp at hj; subst hj; simpa [Addr.add] using hc) (by intro u hu; simp at hu; subst hu; rfl) (by unfold maxLen; omega) (by omega) hB
  obtain ⟨A, c, rfl⟩ := own_form h2
  unfold Oper.wp execOp
  simp only [ho, resolve, invoke, builtin, Sem.run_bind, Sem.run_pure, Result.andThen_ok, List.map_toArray, List.map_cons, List.map_nil, hs, hx, hr]
  exact h A c w' h2 h3 h5
/-- Behind the first append of a round. -/
structure NewHalf (z : ByteArray) (B : Nat) (w : World) (d k : Nat) (sv qv sv' : Value) (wr w' w1 : World) : Prop where
  dev : Blk w1 d 67 (newCells sv qv)
  lo : B ≤ d
  s : w1.ownsRow B 9 1 sv' (k + 1) ((List.replicate (k + 1) (z)).map .string)
  q : w1.ownsRow B 9 1 qv k ((List.replicate k (z)).map .string)
  apart : ∀ g, sv'.ownBlock = some g → qv.ownBlock ≠ some g
  below : Below B w w1
  size : wr.heap.size ≤ w1.heap.size
  kept : ∀ (g i : Nat) (v : Value), wr.heap.size ≤ g → w'.cell? ⟨g, i, none⟩ = some v → w1.cell? ⟨g, i, none⟩ = some v
theorem reps_snoc (k : Nat) (z : ByteArray) : (List.replicate k z).map Value.string ++ [.string z] = (List.replicate (k + 1) z).map .string := by
  rw [List.replicate_succ', List.map_append]; rfl
theorem new_half {z : ByteArray} {B : Nat} {w wr w' w1 : World} {d k : Nat} {sv qv sv' : Value} (hm : NewMid z B w d k sv qv wr) (hb : Below wr.heap.size wr w')
    (ho : w1.ownsRow B 9 1 sv' (k + 1) ((List.replicate k (z)).map .string ++ [.string (z)])) (hg : w'.grownBy w1 sv.ownBlock) (hv : sv'.ownBlock = sv.ownBlock ∨ sv'.ownBlock = some w'.heap.size) : NewHalf z B w d k sv qv sv' wr w' w1 := by
  have hlt : ∀ g, sv.ownBlock = some g → g < wr.heap.size := fun g hg' => (hm.s.lt g hg').2
  have hlq : ∀ g, qv.ownBlock = some g → g < wr.heap.size := fun g hg' => (hm.q.lt g hg').2
  have hsd := own_apart hm.s hm.dev (by decide)
  have dlt := hm.dev.lt
  have hsz := hb.size
  have hlo := hm.lo
  refine ⟨?_, hm.lo, by rw [← reps_snoc]; exact ho, ?_, ?_, ?_, Nat.le_trans hsz hg.size, ?_⟩
  · exact (hm.dev.below hb dlt).grown hg (Ne.symm hsd)
  · refine own_keep hm.q fun g hg' => ?_
    have := hlq g hg'
    rw [hg.block g (by omega) (fun e => hm.apart g e.symm hg')]
    exact hb.block g this
  · intro g h1 h2
    rcases hv with e | e
    · rw [e] at h1; exact hm.apart g h1 h2
    · rw [e] at h1
      have := hlq g h2
      have : w'.heap.size = g := Option.some.inj h1
      omega
  · have hbs := hm.below.size
    exact (hm.below.trans (hb.mono (by omega))).grown hg (by omega) (fun g hg' => (hm.s.lt g hg').1)
  · intro g i v hge hc
    refine hg.cell hc ?_
    intro e
    have := hlt g e.symm
    omega
theorem new_whole {z : ByteArray} {B : Nat} {w wr w' w1 w3 w2 : World} {d k : Nat} {sv qv sv' qv' : Value} (hh : NewHalf z B w d k sv qv sv' wr w' w1) (hb : Below w1.heap.size w1 w3)
    (ho : w2.ownsRow B 9 1 qv' (k + 1) ((List.replicate k (z)).map .string ++ [.string (z)])) (hg : w3.grownBy w2 qv.ownBlock) (hv : qv'.ownBlock = qv.ownBlock ∨ qv'.ownBlock = some w3.heap.size) :
    Blk w2 d 67 (newCells sv qv) ∧ NewMid z B w d (k + 1) sv' qv' ((w2.setCell ⟨d, 0, none⟩ sv').setCell ⟨d, 1, none⟩ qv') := by
  have hlq : ∀ g, qv.ownBlock = some g → g < w1.heap.size := fun g hg' => (hh.q.lt g hg').2
  have hls : ∀ g, sv'.ownBlock = some g → g < w1.heap.size := fun g hg' => (hh.s.lt g hg').2
  have hqd := own_apart hh.q hh.dev (by decide)
  have dlt := hh.dev.lt
  have hsz := hb.size
  have hsz2 := hg.size
  have hlo := hh.lo
  have hdev : Blk w2 d 67 (newCells sv qv) := (hh.dev.below hb dlt).grown hg (Ne.symm hqd)
  have hs2 : w2.ownsRow B 9 1 sv' (k + 1) ((List.replicate (k + 1) (z)).map .string) := by
    refine own_keep hh.s fun g hg' => ?_
    have := hls g hg'
    rw [hg.block g (by omega) (fun e => hh.apart g hg' e.symm)]
    exact hb.block g this
  have hsd := own_apart hs2 hdev (by decide)
  have hqd2 := own_apart ho hdev (by decide)
  have hfar : ∀ g, g ≠ d → ((w2.setCell ⟨d, 0, none⟩ sv').setCell ⟨d, 1, none⟩ qv').heap[g]? = w2.heap[g]? := fun g hgd => (Below.heap_setCell _ _ _ _ hgd).trans (Below.heap_setCell _ _ _ _ hgd)
  refine ⟨hdev, (hdev.put 0 sv').put 1 qv', hh.lo, own_keep hs2 fun g hg' => hfar g (fun e => hsd (by rw [hg', e])), ?_, ?_, ?_⟩
  · rw [← reps_snoc]
    exact own_keep ho fun g hg' => hfar g (fun e => hqd2 (by rw [hg', e]))
  · intro g h1 h2
    rcases hv with e | e
    · rw [e] at h2; exact hh.apart g h1 h2
    · rw [e] at h2
      have := hls g h1
      have : w3.heap.size = g := Option.some.inj h2
      omega
  · have hbs := hh.below.size
    exact (((hh.below.trans (hb.mono (by omega))).grown hg (by omega) (fun g hg' => (hh.q.lt g hg').1)).setCell hh.lo _).setCell hh.lo _
theorem src_a (w : World) (z : ByteArray) : (w.alloc (.cells #[.string z] 9)).cell? ⟨w.heap.size, 0, none⟩ = some (.string z) := (Blk.new w 9 _).cell 0
theorem src_b (w : World) (z : ByteArray) (o : Obj) : ((w.alloc (.cells #[.string z] 9)).alloc o).cell? ⟨w.heap.size, 0, none⟩ = some (.string z) := ((Blk.new w 9 _).alloc o).cell 0
theorem src_c (w : World) (z : ByteArray) (o : Obj) : ((w.alloc o).alloc (.cells #[.string z] 9)).cell? ⟨w.heap.size + 1, 0, none⟩ = some (.string z) := by
  have := (Blk.new (w.alloc o) 9 #[.string z]).cell 0
  rw [show (w.alloc o).heap.size = w.heap.size + 1 by simp] at this
  exact this
theorem le_a {d : Nat} {w : World} {o : Obj} (h : d ≤ w.heap.size) : d ≤ (w.alloc o).drew.heap.size := Nat.le_trans h (by show w.heap.size ≤ (w.alloc o).heap.size; simp)
theorem le_b {d : Nat} {w : World} {o o' : Obj} (h : d ≤ w.heap.size) : d ≤ ((w.alloc o).alloc o').drew.heap.size := Nat.le_trans h (by show w.heap.size ≤ ((w.alloc o).alloc o').heap.size; simp; omega)
theorem le_c {d : Nat} {w : World} {o : Obj} (h : d ≤ w.heap.size) : d ≤ (w.alloc o).heap.size := Nat.le_trans h (by simp)
theorem bel_a (w : World) (o : Obj) : Below w.heap.size w (w.alloc o).drew := ((Below.refl _ _).alloc (Nat.le_refl _) o).drew
theorem bel_b (w : World) (o o' : Obj) : Below w.heap.size w ((w.alloc o).alloc o').drew := (((Below.refl _ _).alloc (Nat.le_refl _) o).alloc (by simp) o').drew
theorem bel_c (w : World) (o : Obj) : Below w.heap.size w (w.alloc o) := (Below.refl _ _).alloc (Nat.le_refl _) o
theorem make_512 : ∃ zs : Array Value, zs = Array.replicate 512 (.int .u8 0) ∧ ∀ w, (Instr.makeSlice 48 (.int .i64 512) (.int .i64 512)).run Try.prog w = .ok (.slice (some ⟨w.heap.size, 0, none⟩) 512 512) (w.alloc (.cells zs 5)) :=
  ⟨bzero 512, bzero_is 512, fun w => make_bytes 512 (by omega) w⟩
/-- A new device of the document's, made behind w. -/
def RefOk (w : World) (n : Nat) (e : Ending) (w' : World) : Prop :=
  ∃ p F, e = .returned (.tuple #[.pointer (some ⟨p, 0, none⟩), .int .i64 0]) ∧ Rf w' F p n (St.new n) ∧ Below w.heap.size w w' ∧ ∀ k, F k → w.heap.size ≤ k
theorem ref_out {w wr : World} {d n c1 c2 : Nat} {A A' : Option Addr} (h1 : 1 ≤ n) (h2 : n ≤ 8192) (hm : NewMid (bytesS 512 0) w.heap.size w d n (.slice A n c1) (.slice A' n c2) wr) :
    RefOk w n (.returned (.tuple #[.pointer (some ⟨d, 0, none⟩), .int .i64 0])) wr := by
  obtain ⟨bs, cs, e1, hb1, _, ht1⟩ := Txts.of_own hm.s h1
  obtain ⟨br, cr, e2, hb2, _, ht2⟩ := Txts.of_own hm.q h1
  have hd := hm.dev
  have ha := hm.apart
  rw [e1, e2] at hd ha
  have hne : br ≠ bs := fun e => ha bs rfl (by rw [e]; rfl)
  have ld := hd.lt
  have l1 := ht1.lt
  have l2 := ht2.lt
  have lo := hm.lo
  refine ⟨d, fun k => k = d ∨ k = br ∨ k = bs, rfl, ⟨br, cr, bs, cs, .slice none 0 0, hd, ?_⟩, hm.below, fun k hk => by omega⟩
  exact ⟨ht2, ht1, hne, World.ownsRow_nil _ _ _ _, .inl rfl, .inr (.inl rfl), .inr (.inr rfl), fun k hk => by simp [Value.ownBlock] at hk, fun k hk => by omega, good_new h1 h2⟩
set_option maxHeartbeats 8000000 in
theorem rnew_ok (w : World) (n : Nat) (h1 : 1 ≤ n) (h2 : n ≤ 8192) : Calls Try.prog 9 #[.int .i64 (n : Int)] w (RefOk w n) := by
  obtain ⟨zs, hzs, hmk⟩ := make_512
  obtain ⟨w0, hw0⟩ : ∃ w0 : World, w0 = w.alloc (.cells (newCells (.slice none 0 0) (.slice none 0 0)) 67) := ⟨_, rfl⟩
  have hcv : ∀ m : Nat, m = 512 → (convert 48 9 (.slice (some ⟨w0.heap.size, 0, none⟩) m m)).run Try.prog (w0.alloc (.cells zs 5)) = .ok (.string (bytesS 512 0)) (w0.alloc (.cells zs 5)) := fun m hm => by
    subst hm
    exact bytes_back (w0.alloc (.cells zs 5)) w0.heap.size 512 0 (by rw [hzs]; exact Blk.new w0 5 _)
  have HN := Lib.hid (show NewMid (bytesS 512 0) w.heap.size w w.heap.size 0 (.slice none 0 0) (.slice none 0 0) (w0.alloc (.cells zs 5)) from ⟨by
    rw [hw0]; exact (Blk.new w 67 _).alloc _, Nat.le_refl _, World.ownsRow_nil _ _ _ _, World.ownsRow_nil _ _ _ _, fun g hg => by simp [Value.ownBlock] at hg, by
    rw [hw0]; exact ((Below.refl w.heap.size w).alloc (Nat.le_refl _) _).alloc (by simp) _⟩)
  have HW0 := Lib.hid (show w0.heap.size = w.heap.size + 1 by rw [hw0]; simp)
  have HZ := Lib.hid hzs
  have HW := Lib.hid hw0
  clear hzs hw0
  go_enter Try.func9, Try.ntmps9
  go_upto_region 4 with (fail)
  change Code.wp _ _ _ _ (w.alloc (.cells (newCells (.slice none 0 0) (.slice none 0 0)) 67))
  rw [← HW.out]
  go_wp2_with (fail)
  generalize w0.alloc (.cells zs 5) = w1 at *
  go_loopw [6] (fun c wr => RnAt (bytesS 512 0) w.heap.size w w.heap.size n c wr) (fun c _ => n - (intOf c).toNat)
  case atStart => exact ⟨0, none, none, 0, 0, rfl, Nat.zero_le _, HN.out⟩
  case round =>
    obtain ⟨k, A, A', c1, c2, rfl, hk, hm⟩ := hrel
    by_cases hlt : k < n
    · have c0 : wr.cell? ⟨w.heap.size, 0, none⟩ = some (.slice A k c1) := hm.dev.cell 0
      have d1 : wr.cell? ⟨w.heap.size, 1, none⟩ = some (.slice A' k c2) := hm.dev.cell 1
      have f0 := hm.dev.free 0
      have f1 := hm.dev.free 1
      have dlt := hm.dev.lt
      have HM := Lib.hid hm
      clear hm HN
      generalize w.heap.size = d at *
      generalize bytesS 512 0 = z at *
      go_wp2_with (fail)
      have HS := Lib.hid HM.out.s
      have HQ := Lib.hid HM.out.q
      have HK := Lib.hid (show k ≤ 8192 by omega)
      have HD := Lib.hid (show d ≤ wr.heap.size by omega)
      go_region_law (first | (refine step_app (by rfl) (.tmp 27) (.tmp 29) (by rfl) d k (.slice A k c1) ((List.replicate k z).map .string) (by rfl) (by first | exact HS.out.alloc _ | exact (HS.out.alloc _).alloc _) _ z (by rfl) (by first | exact src_a _ _ | exact src_b _ _ _ | exact src_c _ _ _) HK.out (by first | exact le_a HD.out | exact le_b HD.out) ?_; intro A1 e1 w1 ho1 hg1 hb1; have HH := Lib.hid (new_half HM.out (by first | exact bel_a _ _ | exact bel_b _ _ _) ho1 hg1 hb1); have e0 : w1.cell? ⟨d, 0, none⟩ = some (.slice A k c1) := HH.out.dev.cell 0; have e2 : w1.cell? ⟨d, 1, none⟩ = some (.slice A' k c2) := HH.out.dev.cell 1; have dlt1 := HH.out.dev.lt; have HSZ := Lib.hid HH.out.size; clear ho1 hg1 hb1) | (refine step_app (by rfl) (.tmp 34) (.tmp 36) (by rfl) d k (.slice A' k c2) ((List.replicate k z).map .string) (by rfl) (by first | exact HH.out.q | exact HH.out.q.alloc _) _ z (by rfl) (by first | exact src_a _ _ | exact HH.out.kept _ _ _ (Nat.le_refl _) (src_a _ _) | exact HH.out.kept _ _ _ (Nat.le_refl _) (src_b _ _ _) | exact HH.out.kept _ _ _ (Nat.le_succ _) (src_c _ _ _)) HK.out (by first | exact Nat.le_trans HD.out HSZ.out | exact le_c (Nat.le_trans HD.out HSZ.out)) ?_; intro A2 e3 w2 ho2 hg2 hb2; have HW2 := Lib.hid (new_whole HH.out (by first | exact Below.refl _ _ | exact bel_c _ _) ho2 hg2 hb2); have g0 : w2.cell? ⟨d, 0, none⟩ = some (.slice A k c1) := HW2.out.1.cell 0; have g1 : w2.cell? ⟨d, 1, none⟩ = some (.slice A' k c2) := HW2.out.1.cell 1; have g2 := HW2.out.1.free 0; have g3 := HW2.out.1.free 1; clear ho2 hg2 hb2))
      all_goals (go_wp2_with (fail); exact ⟨⟨k + 1, _, _, _, _, by go_num, hlt, HW2.out.2⟩, by simp [intOf]; omega⟩)
    · obtain rfl : k = n := by omega
      have HR := Lib.hid (ref_out h1 h2 hm)
      clear hm HN
      go_wp2_with (fail)
      go_ret2
      exact HR.out
section
variable {B : Nat} {w0 w : World} {A2 : Thing}
theorem r_new (hB : B ≤ w0.heap.size) (h2 : Framed A2) (h : Duo B w0 NoA A2 w) (m : Nat) (hm1 : 1 ≤ m) (hm2 : m ≤ 8192) :
    Calls Try.prog 9 #[.int .i64 (m : Int)] w fun e w' => ∃ q, e = .returned (.tuple #[.pointer (some ⟨q, 0, none⟩), .int .i64 0]) ∧ Duo B w0 (RfA q m (St.new m)) A2 w' := by
  obtain ⟨F, G, h⟩ := h
  refine (rnew_ok w m hm1 hm2).mono ?_
  rintro e w' ⟨q, F', rfl, hd, hb, hl⟩
  exact ⟨q, rfl, Duo.step hB h2 h ⟨F', hd, Only.of_below hb, fun k hk => .inr (hl k hk)⟩⟩
end
end Go.Proofs.Ytlcaokgdbocmiaa
