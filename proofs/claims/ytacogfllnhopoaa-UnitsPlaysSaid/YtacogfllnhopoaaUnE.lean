/- Add. -/
import Derived.Test.YtacogfllnhopoaaUnD
import Derived.Deep.AppendLies
import Derived.Deep.RegionLaw
import Derived.Deep.RegionHeld3
namespace Go.Proofs.Ytacogfllnhopoaa
open Go.RowKit Go.Maps
theorem add_nil (w : World) (l : Int) (h : ByteArray) (x : Int) : Calls Try.prog 8 #[.pointer none, .int .i64 l, .string h, .int .i64 x] w fun e w' => e = .returned (.bool false) ∧ w = w' := by
  go_enter Try.func8, Try.ntmps8
  go_wp2
  go_ret
  exact ⟨rfl, rfl⟩
theorem add_lun (w : World) (p : Nat) (l : Int) (h : ByteArray) (x : Int) (hl : (decide (0 ≤ l) && decide (l < 8)) = false) :
    Calls Try.prog 8 #[.pointer (some ⟨p, 0, none⟩), .int .i64 l, .string h, .int .i64 x] w fun e w' => e = .returned (.bool false) ∧ Below w.heap.size w w' := by
  go_enter Try.func8, Try.ntmps8
  go_wp2_with (go_at_call 22; refine (isLun_any _ _).mono ?_; rintro e w' ⟨rfl, rfl⟩)
  go_ret
  exact ⟨rfl, Below.refl _ _⟩
theorem add_name (w : World) (p : Nat) (l : Int) (h : ByteArray) (x : Int) (hl : (decide (0 ≤ l) && decide (l < 8)) = true) (hs : h.size ≤ maxLen) (hn : nameB h = false) :
    Calls Try.prog 8 #[.pointer (some ⟨p, 0, none⟩), .int .i64 l, .string h, .int .i64 x] w fun e w' => e = .returned (.bool false) ∧ Below w.heap.size w w' := by
  go_enter Try.func8, Try.ntmps8
  go_wp2_with (first | (go_at_call 22; refine (isLun_any _ _).mono ?_; rintro e w' ⟨rfl, rfl⟩) | (go_at_call 23; refine (name_any _ _ hs).mono ?_; rintro e w' ⟨rfl, hb⟩))
  go_ret
  exact ⟨rfl, hb⟩
theorem add_why (w : World) (p : Nat) (l : Int) (h : ByteArray) (x : Int) (hl : (decide (0 ≤ l) && decide (l < 8)) = true) (hs : h.size ≤ maxLen) (hn : nameB h = true) (hx : (decide (1 ≤ x) && decide (x ≤ 4)) = false) :
    Calls Try.prog 8 #[.pointer (some ⟨p, 0, none⟩), .int .i64 l, .string h, .int .i64 x] w fun e w' => e = .returned (.bool false) ∧ Below w.heap.size w w' := by
  go_enter Try.func8, Try.ntmps8
  go_wp2_with (first | (go_at_call 22; refine (isLun_any _ _).mono ?_; rintro e w' ⟨rfl, rfl⟩) | (go_at_call 23; refine (name_any _ _ hs).mono ?_; rintro e w' ⟨rfl, hb⟩) | (go_at_call 24; refine (isWhy_any _ _).mono ?_; rintro e w' ⟨rfl, rfl⟩))
  go_ret
  exact ⟨rfl, hb⟩
theorem infoInt : (Try.prog.info? 3).map (fun i => (i.zero, i.size, i.bytes)) = some (some (.int .i64 0), 1, 8) := by kernel_rfl
/-- What Add leaves where it appends. -/
theorem add_end {w w4 w5 : World} {F : Nat → Prop} {p b : Nat} {f : PF} {l : Int} {h : ByteArray} {es es' : Array MapEntry} {clock clock' : Nat} (hP : Blk w p 49 #[.map (some b)]) (hp : F p) (hb : F b) (hlt : ∀ k, F k → k < w.heap.size)
    (hm : Mp w b es clock) (he : ∀ e ∈ es.toList, Ent w F f e) (hc : ∀ l h, f l h ≠ [] → ∃ e ∈ es.toList, e.key = kv l h) (ha : ∀ e ∈ es.toList, ∀ e' ∈ es.toList, e.val.ownBlock = e'.val.ownBlock → e.key = e'.key) (hf : Fine f)
    {A : Option Addr} {n c : Nat} (hent : ∀ k, (Value.slice A n c).ownBlock = some k → ∃ e ∈ es.toList, e.key = kv l h ∧ e.val.ownBlock = some k)
    (ho4 : Only (fun k => (Value.slice A n c).ownBlock = some k) w w4) {g cap m : Nat} {zs : List Int} (hm0 : 0 < m) (hown : w4.ownsRow 0 3 1 (.slice (some ⟨g, 0, none⟩) m cap) m (zs.map (.int .i64)))
    (hge : (Value.slice A n c).ownBlock = some g ∨ w.heap.size ≤ g) (ho5 : Only (fun k => k = b) w4 w5) (hm5 : Mp w5 b es' clock')
    (e1 : ∀ e ∈ es'.toList, (e ∈ es.toList ∧ e.key ≠ kv l h) ∨ (e.key = kv l h ∧ e.val = .slice (some ⟨g, 0, none⟩) m cap)) (e2 : ∀ e ∈ es.toList, e.key ≠ kv l h → e ∈ es'.toList) (e3 : ∃ e ∈ es'.toList, e.key = kv l h ∧ e.val = .slice (some ⟨g, 0, none⟩) m cap)
    (hfine : 0 ≤ l ∧ l < 8 ∧ nameB h = true ∧ zs.length ≤ 8) : UnOut F w p (upd f l h zs) w5 := by
  obtain ⟨g', c', hv, _, hlen, hi⟩ := Ints.of_own hown hm0
  obtain ⟨rfl, rfl⟩ : g = g' ∧ cap = c' := by
    simp at hv
    exact ⟨hv.1, hv.2⟩
  have hzs : zs ≠ [] := by
    rintro rfl
    simp at hlen
    omega
  have hFr : ∀ k, (Value.slice A n c).ownBlock = some k → F k := fun k hk => by
    obtain ⟨e, h1, h2, h3⟩ := hent k hk
    obtain ⟨l', h', g', c', k1, k2, k3, k4, k5⟩ := he e h1
    rw [k2] at h3
    have : g' = k := by simpa [Value.ownBlock] using h3
    exact this ▸ k4
  have hrm : ∀ k, (Value.slice A n c).ownBlock = some k → k ≠ b := fun k hk => by
    obtain ⟨e, h1, h2, h3⟩ := hent k hk
    obtain ⟨l', h', g', c', k1, k2, k3, k4, k5⟩ := he e h1
    rw [k2] at h3
    have : g' = k := by simpa [Value.ownBlock] using h3
    exact this ▸ row_not_map k5 hm
  have hrp : ∀ k, (Value.slice A n c).ownBlock = some k → k ≠ p := fun k hk => by
    obtain ⟨e, h1, h2, h3⟩ := hent k hk
    obtain ⟨l', h', g', c', k1, k2, k3, k4, cur, k5, _⟩ := he e h1
    rw [k2] at h3
    have : g' = k := by simpa [Value.ownBlock] using h3
    exact this ▸ k5.apart hP (by decide)
  have hbw := hlt b hb
  have hgb : g ≠ b := by
    rcases hge with h1 | h1
    · exact hrm g h1
    · omega
  have hS : Only (fun k => k = b ∨ (Value.slice A n c).ownBlock = some k) w w5 := (ho4.mono (fun i hi => .inr hi)).trans ho5 (fun i hi => .inl (.inl hi))
  have hi5 : Ints w5 g cap zs := hi.keep (ho5.block g hi.lt hgb)
  have hpb : p ≠ b := by
    rintro rfl
    have := hm.here
    unfold Blk at hP
    rw [hP] at this
    cases this
  refine ⟨hS.mono (fun k hk => hk.elim (fun e => e ▸ hb) (hFr k)), fun k => F k ∨ k = g, ⟨b, ?_, .inl hp, .inl hb, ?_, ?_, ?_⟩, ?_⟩
  · exact hP.only hS (fun hh => hh.elim hpb (fun h1 => hrp p h1 rfl))
  · rintro k (hk | rfl)
    · exact Nat.lt_of_lt_of_le (hlt k hk) hS.size
    · exact hi5.lt
  · exact Pd.stored hm he hc ha hS (fun k hk => hk.imp id (fun h1 => hent k h1)) hm5 hlen.symm e1 e2 e3 hi5 (hge.imp (fun h1 => hent g h1) id) hzs
  · exact hf.upd (fun _ => hfine)
  · rintro k (hk | rfl)
    · exact .inl hk
    · rcases hge with h1 | h1
      · exact .inl (hFr k h1)
      · exact .inr h1
theorem nameB_size {s : ByteArray} (h : nameB s = true) : s.size ≤ 64 := (of_decide_eq_true h).2.1
/-- What is found at a place, and where it lies. -/
theorem find_row {w : World} {F : Nat → Prop} {b : Nat} {f : PF} {l : Int} {h : ByteArray} {es : Array MapEntry} {clock : Nat} (he : ∀ e ∈ es.toList, Ent w F f e)
    (hc : ∀ l h, f l h ≠ [] → ∃ e ∈ es.toList, e.key = kv l h) (hk : IsKv (kv l h)) :
    ∃ A n c, n = (f l h).length ∧ w.ownsRow 0 3 1 (.slice A n c) n ((f l h).map (.int .i64)) ∧ (∀ k, (Value.slice A n c).ownBlock = some k → ∃ e ∈ es.toList, e.key = kv l h ∧ e.val.ownBlock = some k) ∧
      (∀ v, Mp v b es clock → (Instr.lookup 47 (.map (some b)) (.agg #[.int .i64 l, .string h]) false).run Try.prog v = .ok (.slice A n c) v) ∧ (0 < n → ∃ g, A = some ⟨g, 0, none⟩ ∧ F g ∧ Ints w g c (f l h)) := by
  by_cases h0 : f l h = []
  · refine ⟨none, 0, 0, by rw [h0]; rfl, by rw [h0]; exact ⟨rfl, .inl ⟨rfl, rfl⟩⟩, fun k hk => by simp [Value.ownBlock] at hk, fun v hv => ?_, fun h => by omega⟩
    rcases hv.look hk with ⟨hr, _⟩ | ⟨e, hem, hek, _⟩
    · exact hr
    · obtain ⟨l', h', g, c, k1, k2, k3, k4, k5⟩ := he e hem
      obtain ⟨rfl, rfl⟩ := kv_inj (k1.symm.trans hek)
      exact absurd h0 k3
  · obtain ⟨e, hem, hek⟩ := hc l h h0
    obtain ⟨l', h', g, c, k1, k2, k3, k4, k5⟩ := he e hem
    obtain ⟨rfl, rfl⟩ := kv_inj (k1.symm.trans hek)
    refine ⟨some ⟨g, 0, none⟩, _, c, rfl, k5.own (Nat.zero_le _), fun k hk' => ⟨e, hem, hek, by rw [k2]; exact hk'⟩, fun v hv => ?_, fun _ => ⟨g, rfl, k4, k5⟩⟩
    rcases hv.look hk with ⟨_, hno⟩ | ⟨e', hem', hek', hr⟩
    · exact absurd hek (hno e hem)
    · rw [hv.one hem' hem (hek'.trans hek.symm), k2] at hr
      exact hr
set_option maxHeartbeats 1000000 in
theorem add_first (w : World) {F : Nat → Prop} {p b : Nat} {f : PF} {es : Array MapEntry} {clock : Nat} (hP : Blk w p 49 #[.map (some b)]) (hp : F p) (hb : F b) (hlt : ∀ k, F k → k < w.heap.size)
    (hm : Mp w b es clock) (he : ∀ e ∈ es.toList, Ent w F f e) (hc : ∀ l h, f l h ≠ [] → ∃ e ∈ es.toList, e.key = kv l h) (ha : ∀ e ∈ es.toList, ∀ e' ∈ es.toList, e.val.ownBlock = e'.val.ownBlock → e.key = e'.key) (hf : Fine f)
    (l : Int) (h : ByteArray) (x : Int) (hl : (decide (0 ≤ l) && decide (l < 8)) = true) (hs : h.size ≤ maxLen) (hk : IsKv (kv l h)) (hn : nameB h = true) (hx : (decide (1 ≤ x) && decide (x ≤ 4)) = true)
    (A : Option Addr) (n c : Nat) (zs : List Int) (hrow : w.ownsRow 0 3 1 (.slice A n c) n (zs.map (.int .i64))) (hent : ∀ k, (Value.slice A n c).ownBlock = some k → ∃ e ∈ es.toList, e.key = kv l h ∧ e.val.ownBlock = some k)
    (hlook : ∀ v, Mp v b es clock → (Instr.lookup 47 (.map (some b)) (.agg #[.int .i64 l, .string h]) false).run Try.prog v = .ok (.slice A n c) v)
    (hn0 : n = 0) (hz0 : zs = []) :
    Calls Try.prog 8 #[.pointer (some ⟨p, 0, none⟩), .int .i64 l, .string h, .int .i64 x] w fun e w' => e = .returned (.bool true) ∧ UnOut F w p (upd f l h (push8 zs x)) w' := by
  have HM := Lib.hid hm; have HP := Lib.hid hP; have HE := Lib.hid he; have HC := Lib.hid hc; have HA := Lib.hid ha; have HF := Lib.hid hf; have HROW0 := Lib.hid hrow; have HENT := Lib.hid hent; have HLT := Lib.hid hlt; have Hp := Lib.hid hp; have Hb := Lib.hid hb
  have HFi := Lib.hid (show 0 ≤ l ∧ l < 8 ∧ nameB h = true from ⟨by simp at hl; omega, by simp at hl; omega, hn⟩)
  have HHS := Lib.hid (show h.size ≤ 281474976710656 from Nat.le_trans (nameB_size hn) (by omega))
  have HOWN : Hid (∀ k, (Value.slice A n c).ownBlock = some k → ∃ cur, Blk w k 3 cur) := fun k hk => by
    obtain ⟨e, h1, h2, h3⟩ := hent k hk
    obtain ⟨l', h', g', c', k1, k2, k3, k4, cur, k5, _⟩ := he e h1
    rw [k2] at h3
    have : g' = k := by simpa [Value.ownBlock] using h3
    exact ⟨cur, this ▸ k5⟩
  have h00 : ¬ (0 : Int) < (n : Int) := by omega
  have h08 : ((n : Int) == 8) = false := by simpa using (show ¬ (n : Int) = 8 by omega)
  have hn7 : n ≤ 7 := by omega
  have HPU := Lib.hid (show push8 zs x = zs ++ [x] by unfold push8; rw [if_neg (by rw [hz0]; simp)])
  clear hn0 hz0
  clear hm hP he hc ha hf hrow hent hlt hp hb
  obtain ⟨i0, hi0, hz0, hz1, hz2⟩ := info_parts infoInt
  go_enter Try.func8, Try.ntmps8
  go_wp2_with (first | (go_at_call 22; refine (isLun_any _ _).mono ?_; rintro e w' ⟨rfl, rfl⟩) | (go_at_call 23; refine (name_any _ _ hs).mono ?_; rintro e w1 ⟨rfl, hb1⟩; have H1 := Lib.hid hb1; clear hb1) | (go_at_call 24; refine (isWhy_any _ _).mono ?_; rintro e w' ⟨rfl, rfl⟩))
  change Code.wp _ _ _ _ (w1.alloc (.cells #[.int .i64 l, .string h] 52))
  have HB2 := Lib.hid (show Blk (w1.alloc (.cells #[.int .i64 l, .string h] 52)) w1.heap.size 52 #[.int .i64 l, .string h] from Blk.new _ _ _)
  have H2 := Lib.hid (show Below w.heap.size w (w1.alloc (.cells #[.int .i64 l, .string h] 52)) from H1.alloc H1.size _)
  have HQ := Lib.hid H1.size
  generalize w1.alloc (.cells #[.int .i64 l, .string h] 52) = w2 at *
  generalize w1.heap.size = q at *
  clear H1
  have HM2 := Lib.hid (HM.keep (H2.block b HM.lt))
  have HP2 := Lib.hid (Blk.below HP H2 HP.lt)
  have hp2 : w2.cell? ⟨p, 0, none⟩ = some (.map (some b)) := HP2.cell 0
  have hd0 : w2.cell? ⟨q, 0, none⟩ = some (.int .i64 l) := HB2.cell 0
  have hd1 : w2.cell? ⟨q, 1, none⟩ = some (.string h) := HB2.cell 1
  have hr := hlook w2.drew (Mp.keep (w' := w2.drew) HM2 rfl)
  have HNP := Lib.hid (show some p ≠ (Value.slice A n c).ownBlock from fun hh => by obtain ⟨cur, hb⟩ := HOWN p hh.symm; exact absurd rfl (hb.apart HP (by decide)))
  have HNB := Lib.hid (show some b ≠ (Value.slice A n c).ownBlock from fun hh => by obtain ⟨cur, hb⟩ := HOWN b hh.symm; have := HM.here; unfold Blk at hb; rw [hb] at this; cases this)
  have HNQ := Lib.hid (show some q ≠ (Value.slice A n c).ownBlock from fun hh => by obtain ⟨cur, hb⟩ := HOWN q hh.symm; have := hb.lt; have := HQ.out; omega)
  go_region
  go_wp2
  change Code.wp _ _ _ _ w2.drew
  clear hr hp2 hd0 hd1
  have H3 := Lib.hid (show Only (fun k => (Value.slice A n c).ownBlock = some k) w w2.drew from (Only.of_below H2.out).drew)
  have HROW := Lib.hid (show w2.drew.ownsRow 0 3 1 (.slice A n c) n (zs.map (.int .i64)) from own_keep HROW0 (fun k hk => H2.block k (by obtain ⟨cur, hb⟩ := HOWN k hk; exact hb.lt)))
  have HB3 := Lib.hid (show Blk w2.drew q 52 #[.int .i64 l, .string h] from HB2)
  have HM3 := Lib.hid (Mp.keep (w' := w2.drew) HM2 rfl)
  have HP3 := Lib.hid (show Blk w2.drew p 49 #[.map (some b)] from HP2)
  clear HB2 HM2 HP2 H2
  generalize w2.drew = w3 at *
  obtain ⟨zt, hzt⟩ : ∃ zt, zt = zs := ⟨_, rfl⟩
  have HPT := Lib.hid (show push8 zs x = zt ++ [x] by rw [hzt]; exact HPU)
  have HROW1 := Lib.hid (show w3.ownsRow 0 3 1 (.slice A n c) n (zt.map (.int .i64)) by rw [hzt]; exact HROW)
  clear hzt HROW0 HROW HPU
  have hd0 : w3.cell? ⟨q, 0, none⟩ = some (.int .i64 l) := HB3.cell 0
  have hd1 : w3.cell? ⟨q, 1, none⟩ = some (.string h) := HB3.cell 1
  have ha0 : (w3.alloc (.cells #[.int .i64 x] 3)).cell? ⟨q, 0, none⟩ = some (.int .i64 l) := (Blk.alloc HB3 _).cell 0
  have ha1 : (w3.alloc (.cells #[.int .i64 x] 3)).cell? ⟨q, 1, none⟩ = some (.string h) := (Blk.alloc HB3 _).cell 1
  have HX := Lib.hid (show ∀ j u, [Value.int .i64 x][j]? = some u → (w3.alloc (.cells #[.int .i64 x] 3)).drew.cell? ((⟨w3.heap.size, 0, none⟩ : Addr).add j) = some u from cell_one_new w3 (.int .i64 x) 3)
  have HRW := Lib.hid (show (w3.alloc (.cells #[.int .i64 x] 3)).drew.ownsRow 0 3 1 (.slice A n c) n (zt.map (.int .i64)) from own_keep HROW1 (fun k hk => Below.heap_alloc w3 _ k (by obtain ⟨cur, hb⟩ := HOWN k hk; exact Nat.lt_of_lt_of_le hb.lt H3.size)))
  have HBB := Lib.hid (show n + 1 ≤ maxLen by unfold maxLen; omega)
  have HBY := Lib.hid (show (n + 1) * 8 ≤ 140737488355328 by omega)
  clear hlook
  go_region_law (first
    | (refine step_append_lies _ (by rfl) (.tmp 57) (.tmp 59) 41 (by rfl) 0 3 i0 _ 1 8 Try.underlying41 hi0 hz0 hz1 hz2 rfl (by omega) (.slice A n c) n (zt.map (.int .i64)) (by rfl) HRW.out ⟨w3.heap.size, 0, none⟩ 1 1 [.int .i64 x] (by rfl) rfl HX.out (fun u hu => by rw [List.mem_singleton.1 hu]; rfl) (by omega) HBB.out HBY.out (Nat.zero_le _) _ rfl ?_
       intro g cap w4 hown hgr hge hglt
       have HOW := Lib.hid hown; have HGE := Lib.hid hge; have HGR := Lib.hid hgr
       have HB4 := Lib.hid (Blk.grown (show Blk (w3.alloc (.cells #[.int .i64 x] 3)).drew q 52 #[.int .i64 l, .string h] from (Blk.alloc HB3 _).drew) hgr HNQ.out)
       have hc0 := HB4.out.cell 0
       have hc1 := HB4.out.cell 1
       have HM4 := Lib.hid (Mp.keep (w' := w4) (show Mp (w3.alloc (.cells #[.int .i64 x] 3)).drew b es clock from Mp.keep HM3 (Below.heap_alloc w3 _ b HM3.lt)) (hgr.block b (by have := HM3.lt; simp; omega) HNB.out))
       have HP4 := Lib.hid (Blk.grown (show Blk (w3.alloc (.cells #[.int .i64 x] 3)).drew p 49 #[.map (some b)] from (Blk.alloc HP3 _).drew) hgr HNP.out)
       clear hown hgr hge hglt)
    | (go_simp; go_at_call 26; refine (keep_store w4 (HP4.out.cell 0) HM4.out hk HHS.out (some ⟨g, 0, none⟩) (n + 1) cap (by omega)).mono ?_; rintro e w5 ⟨rfl, ho5, es', clock', hm5, e1, e2, e3⟩; have HO5 := Lib.hid ho5; have HM5 := Lib.hid hm5; have E1 := Lib.hid e1; have E2 := Lib.hid e2; have E3 := Lib.hid e3; clear ho5 hm5 e1 e2 e3)
    | fail)
  all_goals (
    go_wp2
    go_ret
    refine ⟨rfl, ?_⟩
    have hl8 : (zt ++ [x]).length ≤ 8 := by have := HROW1.out.1; simp at this ⊢; omega
    have ho4 : Only (fun k => (Value.slice A n c).ownBlock = some k) w w4 := ((H3.out.alloc _).drew).grown HGR.out (fun k hk => .inl hk)
    rw [HPT.out]
    exact add_end HP Hp Hb HLT HM HE HC HA HF HENT ho4 (Nat.succ_pos _) (zs := zt ++ [x]) (by simpa using HOW.out) (HGE.out.imp id (fun hh => by have := H3.out.size; rw [hh]; simp; omega)) HO5 HM5 E1 E2 E3 ⟨HFi.1, HFi.2.1, HFi.2.2, hl8⟩)
end Go.Proofs.Ytacogfllnhopoaa
