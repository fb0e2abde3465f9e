/- Take. -/
import Derived.Test.YtacogfllnhopoaaUnH
namespace Go.Proofs.Ytacogfllnhopoaa
open Go.RowKit Go.Maps
/-- What Take leaves where nothing is left. -/
theorem take_end {w w4 w5 : World} {F : Nat → Prop} {p b : Nat} {f : PF} {l : Int} {h : ByteArray} {es es' : Array MapEntry} {clock clock' : Nat} (hP : Blk w p 49 #[.map (some b)]) (hp : F p) (hb : F b) (hlt : ∀ k, F k → k < w.heap.size)
    (hm : Mp w b es clock) (he : ∀ e ∈ es.toList, Ent w F f e) (hc : ∀ l h, f l h ≠ [] → ∃ e ∈ es.toList, e.key = kv l h) (ha : ∀ e ∈ es.toList, ∀ e' ∈ es.toList, e.val.ownBlock = e'.val.ownBlock → e.key = e'.key) (hf : Fine f)
    {A : Option Addr} {n c : Nat} (hent : ∀ k, (Value.slice A n c).ownBlock = some k → ∃ e ∈ es.toList, e.key = kv l h ∧ e.val.ownBlock = some k)
    (ho4 : Only (fun k => (Value.slice A n c).ownBlock = some k) w w4) (ho5 : Only (fun k => k = b) w4 w5) (hm5 : Mp w5 b es' clock')
    (hiff : ∀ e, e ∈ es'.toList ↔ (e ∈ es.toList ∧ e.key ≠ kv l h)) : UnOut F w p (upd f l h []) w5 := by
  have hFr : ∀ k, (Value.slice A n c).ownBlock = some k → F k := fun k hk => by
    obtain ⟨e, h1, h2, h3⟩ := hent k hk
    obtain ⟨l', h', g', c', k1, k2, k3, k4, k5⟩ := he e h1
    rw [k2] at h3
    have : g' = k := by simpa [Value.ownBlock] using h3
    exact this ▸ k4
  have hrp : ∀ k, (Value.slice A n c).ownBlock = some k → k ≠ p := fun k hk => by
    obtain ⟨e, h1, h2, h3⟩ := hent k hk
    obtain ⟨l', h', g', c', k1, k2, k3, k4, cur, k5, _⟩ := he e h1
    rw [k2] at h3
    have : g' = k := by simpa [Value.ownBlock] using h3
    exact this ▸ k5.apart hP (by decide)
  have hS : Only (fun k => k = b ∨ (Value.slice A n c).ownBlock = some k) w w5 := (ho4.mono (fun i hi => .inr hi)).trans ho5 (fun i hi => .inl (.inl hi))
  have hpb : p ≠ b := by
    rintro rfl
    have := hm.here
    unfold Blk at hP
    rw [hP] at this
    cases this
  refine ⟨hS.mono (fun k hk => hk.elim (fun e => e ▸ hb) (hFr k)), F, ⟨b, ?_, hp, hb, fun k hk => Nat.lt_of_lt_of_le (hlt k hk) hS.size, ?_, ?_⟩, fun k hk => .inl hk⟩
  · exact hP.only hS (fun hh => hh.elim hpb (fun h1 => hrp p h1 rfl))
  · exact Pd.dropped hm he hc ha hS (fun k hk => hk.imp id (fun h1 => hent k h1)) hm5 hiff
  · exact hf.upd (fun hn => absurd rfl hn)
set_option maxHeartbeats 1000000 in
theorem take_more (w : World) {F : Nat → Prop} {p b : Nat} {f : PF} {es : Array MapEntry} {clock : Nat} (hP : Blk w p 49 #[.map (some b)]) (hp : F p) (hb : F b) (hlt : ∀ k, F k → k < w.heap.size)
    (hm : Mp w b es clock) (he : ∀ e ∈ es.toList, Ent w F f e) (hc : ∀ l h, f l h ≠ [] → ∃ e ∈ es.toList, e.key = kv l h) (ha : ∀ e ∈ es.toList, ∀ e' ∈ es.toList, e.val.ownBlock = e'.val.ownBlock → e.key = e'.key) (hf : Fine f)
    (l : Int) (h : ByteArray) (hk : IsKv (kv l h)) (hF : 0 ≤ l ∧ l < 8 ∧ nameB h = true)
    (g0 n c : Nat) (y : Int) (zt : List Int) (hfz : f l h = y :: zt) (hn : zt.length = n) (hn8 : n ≤ 7) (hrow : w.ownsRow 0 3 1 (.slice (some ⟨g0, 0, none⟩) (n + 1) c) (n + 1) ((y :: zt).map (.int .i64))) (hent : ∀ k, (Value.slice (some ⟨g0, 0, none⟩) (n + 1) c).ownBlock = some k → ∃ e ∈ es.toList, e.key = kv l h ∧ e.val.ownBlock = some k)
    (hlook : ∀ v, Mp v b es clock → (Instr.lookup 47 (.map (some b)) (.agg #[.int .i64 l, .string h]) false).run Try.prog v = .ok (.slice (some ⟨g0, 0, none⟩) (n + 1) c) v) (hn1 : 1 ≤ n) :
    Calls Try.prog 10 #[.pointer (some ⟨p, 0, none⟩), .int .i64 l, .string h] w fun e w' => e = .returned (.tuple #[.int .i64 y, .bool true]) ∧ UnOut F w p (upd f l h zt) w' := by
  have HM := Lib.hid hm; have HP := Lib.hid hP; have HE := Lib.hid he; have HC := Lib.hid hc; have HA := Lib.hid ha; have HF := Lib.hid hf; have HROW0 := Lib.hid hrow; have HENT := Lib.hid hent; have HLT := Lib.hid hlt; have Hp := Lib.hid hp; have Hb := Lib.hid hb
  have HFi := Lib.hid hF; have HN := Lib.hid hn; have HN8 := Lib.hid hn8; have HFZ := Lib.hid hfz
  have HHS := Lib.hid (show h.size ≤ 281474976710656 from Nat.le_trans (nameB_size hF.2.2) (by omega))
  have HU : Un w F p f := ⟨b, hP, hp, hb, hlt, ⟨es, clock, hm, he, hc, ha⟩, hf⟩
  have HUU := Lib.hid HU
  have HOWN : Hid (∀ k, (Value.slice (some ⟨g0, 0, none⟩) (n + 1) c).ownBlock = some k → ∃ cur, Blk w k 3 cur) := fun k hk => by
    obtain ⟨e, h1, h2, h3⟩ := hent k hk
    obtain ⟨l', h', g', c', k1, k2, k3, k4, cur, k5, _⟩ := he e h1
    rw [k2] at h3
    have : g' = k := by simpa [Value.ownBlock] using h3
    exact ⟨cur, this ▸ k5⟩
  have hwz : (((n + 1 : Nat) : Int) == 0) = false := by simpa using (show ¬ ((n + 1 : Nat) : Int) = 0 by omega)
  have HW := Lib.hid ((wait_any w HU hk))
  rw [hfz, List.length_cons, hn] at HW
  have hi0 : (0 : Int) < ((n + 1 : Nat) : Int) := by omega
  obtain ⟨m, hmm⟩ : ∃ m : Nat, m = n + 1 := ⟨_, rfl⟩
  rw [← hmm] at hwz HW hi0 HROW0 HENT hlook HOWN
  have HMM := Lib.hid hmm
  clear hm hP he hc ha hf hrow hent hlt hp hb hF hn hn8 hfz HU hmm
  go_enter Try.func10, Try.ntmps10
  go_wp2_with (go_at_call 14; refine HW.out.mono ?_; rintro e w1 ⟨rfl, rfl⟩)
  change Code.wp _ _ _ _ (w.alloc (.cells #[.int .i64 l, .string h] 52))
  have HB2 := Lib.hid (show Blk (w.alloc (.cells #[.int .i64 l, .string h] 52)) w.heap.size 52 #[.int .i64 l, .string h] from Blk.new _ _ _)
  have H2 := Lib.hid (show Below w.heap.size w (w.alloc (.cells #[.int .i64 l, .string h] 52)) from (Below.refl _ _).alloc (Nat.le_refl _) _)
  generalize hqq : w.heap.size = q at *
  have HQ := Lib.hid hqq
  clear hqq
  generalize w.alloc (.cells #[.int .i64 l, .string h] 52) = w2 at *
  have HM2 := Lib.hid (HM.keep (H2.block b (by rw [← HQ.out]; exact HM.lt)))
  have HP2 := Lib.hid (Blk.below HP H2 (by rw [← HQ.out]; exact HP.lt))
  have hp2 : w2.cell? ⟨p, 0, none⟩ = some (.map (some b)) := HP2.cell 0
  have hd0 : w2.cell? ⟨q, 0, none⟩ = some (.int .i64 l) := HB2.cell 0
  have hd1 : w2.cell? ⟨q, 1, none⟩ = some (.string h) := HB2.cell 1
  have hr := hlook w2.drew (Mp.keep (w' := w2.drew) HM2 rfl)
  have HNP := Lib.hid (show some p ≠ (Value.slice (some ⟨g0, 0, none⟩) m c).ownBlock from fun hh => by obtain ⟨cur, hb⟩ := HOWN p hh.symm; exact absurd rfl (hb.apart HP (by decide)))
  have HNB := Lib.hid (show some b ≠ (Value.slice (some ⟨g0, 0, none⟩) m c).ownBlock from fun hh => by obtain ⟨cur, hb⟩ := HOWN b hh.symm; have := HM.here; unfold Blk at hb; rw [hb] at this; cases this)
  have HNQ := Lib.hid (show some q ≠ (Value.slice (some ⟨g0, 0, none⟩) m c).ownBlock from fun hh => by obtain ⟨cur, hb⟩ := HOWN q hh.symm; have := hb.lt; have := HQ.out; omega)
  have hrd := Lib.hid (show w2.drew.ownsRow 0 3 1 (.slice (some ⟨g0, 0, none⟩) m c) m ((y :: zt).map (.int .i64)) from own_keep HROW0 (fun k hk => H2.block k (by obtain ⟨cur, hb⟩ := HOWN k hk; rw [← HQ.out]; exact hb.lt)))
  have HI0 : Hid (Ints w2.drew g0 c (y :: zt)) := by
    obtain ⟨g', c', e1, _, _, e2⟩ := Ints.of_own hrd (by have := HMM.out; omega)
    cases e1
    exact e2
  have hcy : w2.cell? ⟨g0, 0, none⟩ = some (.int .i64 y) := HI0.cell (i := 0) rfl
  go_region
  go_wp2
  change Code.wp _ _ _ _ w2.drew
  clear hr hp2 hd0 hd1 hcy hlook
  have H3 := Lib.hid (show Only (fun k => (Value.slice (some ⟨g0, 0, none⟩) m c).ownBlock = some k) w w2.drew from (Only.of_below (HQ.out ▸ H2.out)).drew)
  have HB3 := Lib.hid (show Blk w2.drew q 52 #[.int .i64 l, .string h] from HB2)
  have HM3 := Lib.hid (Mp.keep (w' := w2.drew) HM2 rfl)
  have HP3 := Lib.hid (show Blk w2.drew p 49 #[.map (some b)] from HP2)
  clear HB2 HM2 HP2 H2 hrd HROW0
  generalize w2.drew = w3 at *
  have hd0 : w3.cell? ⟨q, 0, none⟩ = some (.int .i64 l) := HB3.cell 0
  have hd1 : w3.cell? ⟨q, 1, none⟩ = some (.string h) := HB3.cell 1
  have HDEL := Lib.hid (fun v (hv : Ints v g0 c (y :: zt)) => del_any v hv (n := n) (by simpa using HN.out))
  rw [← HMM.out] at HDEL
  go_region_law (first
    | (go_simp; go_at_call 25; refine (HDEL.out _ (show Ints w3.drew g0 c (y :: zt) from HI0)).mono ?_; rintro e w4 ⟨rfl, ho4, hi4⟩
       have HO4 := Lib.hid (show Only (fun k => k = g0) w3 w4 from ⟨ho4.os, ho4.tape, ho4.output, ho4.size, ho4.block⟩); have HI4 := Lib.hid hi4
       have HB4 := Lib.hid (Blk.only HB3 HO4 (fun e => HNQ (by subst e; rfl)))
       have HM4 := Lib.hid (Mp.keep HM3 (HO4.block b HM3.lt (fun e => HNB (by subst e; rfl))))
       have HP4 := Lib.hid (Blk.only HP3 HO4 (fun e => HNP (by subst e; rfl)))
       have hc0 := HB4.out.cell 0
       have hc1 := HB4.out.cell 1
       clear ho4 hi4)
    | (go_simp; go_at_call 26; refine (keep_store w4 (HP4.out.cell 0) HM4.out hk HHS.out (some ⟨g0, 0, none⟩) n c (by omega)).mono ?_; rintro e w5 ⟨rfl, ho5, es', clock', hm5, e1, e2, e3⟩; have HO5 := Lib.hid ho5; have HM5 := Lib.hid hm5; have E1 := Lib.hid e1; have E2 := Lib.hid e2; have E3 := Lib.hid e3; clear ho5 hm5 e1 e2 e3)
    | fail)
  all_goals (
    go_wp2
    go_ret2
    refine ⟨rfl, ?_⟩
    have ho4 : Only (fun k => (Value.slice (some ⟨g0, 0, none⟩) m c).ownBlock = some k) w w4 := H3.out.trans HO4 (fun i hi => .inl (by subst hi; rfl))
    have hown : w4.ownsRow 0 3 1 (.slice (some ⟨g0, 0, none⟩) n c) n (zt.map (.int .i64)) := by
      have := HI4.out.own (Nat.zero_le g0)
      rw [show ((y :: zt).drop 1).length = n by simpa using HN.out] at this
      exact this
    exact add_end HP Hp Hb (by rw [HQ.out]; exact HLT) HM HE HC HA HF HENT ho4 hn1 hown (.inl rfl) HO5 HM5 E1 E2 E3 ⟨HFi.1, HFi.2.1, HFi.2.2, by have := HN.out; have := HN8.out; omega⟩)
set_option maxHeartbeats 1000000 in
theorem take_one (w : World) {F : Nat → Prop} {p b : Nat} {f : PF} {es : Array MapEntry} {clock : Nat} (hP : Blk w p 49 #[.map (some b)]) (hp : F p) (hb : F b) (hlt : ∀ k, F k → k < w.heap.size)
    (hm : Mp w b es clock) (he : ∀ e ∈ es.toList, Ent w F f e) (hc : ∀ l h, f l h ≠ [] → ∃ e ∈ es.toList, e.key = kv l h) (ha : ∀ e ∈ es.toList, ∀ e' ∈ es.toList, e.val.ownBlock = e'.val.ownBlock → e.key = e'.key) (hf : Fine f)
    (l : Int) (h : ByteArray) (hk : IsKv (kv l h)) (hF : 0 ≤ l ∧ l < 8 ∧ nameB h = true)
    (g0 c : Nat) (y : Int) (hfz : f l h = [y]) (hrow : w.ownsRow 0 3 1 (.slice (some ⟨g0, 0, none⟩) 1 c) 1 ([y].map (.int .i64))) (hent : ∀ k, (Value.slice (some ⟨g0, 0, none⟩) 1 c).ownBlock = some k → ∃ e ∈ es.toList, e.key = kv l h ∧ e.val.ownBlock = some k)
    (hlook : ∀ v, Mp v b es clock → (Instr.lookup 47 (.map (some b)) (.agg #[.int .i64 l, .string h]) false).run Try.prog v = .ok (.slice (some ⟨g0, 0, none⟩) 1 c) v) :
    Calls Try.prog 10 #[.pointer (some ⟨p, 0, none⟩), .int .i64 l, .string h] w fun e w' => e = .returned (.tuple #[.int .i64 y, .bool true]) ∧ UnOut F w p (upd f l h []) w' := by
  have HM := Lib.hid hm; have HP := Lib.hid hP; have HE := Lib.hid he; have HC := Lib.hid hc; have HA := Lib.hid ha; have HF := Lib.hid hf; have HROW0 := Lib.hid hrow; have HENT := Lib.hid hent; have HLT := Lib.hid hlt; have Hp := Lib.hid hp; have Hb := Lib.hid hb
  have HFi := Lib.hid hF; have HFZ := Lib.hid hfz
  have HHS := Lib.hid (show h.size ≤ 281474976710656 from Nat.le_trans (nameB_size hF.2.2) (by omega))
  have HU : Un w F p f := ⟨b, hP, hp, hb, hlt, ⟨es, clock, hm, he, hc, ha⟩, hf⟩
  have HUU := Lib.hid HU
  have HOWN : Hid (∀ k, (Value.slice (some ⟨g0, 0, none⟩) 1 c).ownBlock = some k → ∃ cur, Blk w k 3 cur) := fun k hk => by
    obtain ⟨e, h1, h2, h3⟩ := hent k hk
    obtain ⟨l', h', g', c', k1, k2, k3, k4, cur, k5, _⟩ := he e h1
    rw [k2] at h3
    have : g' = k := by simpa [Value.ownBlock] using h3
    exact ⟨cur, this ▸ k5⟩
  have HW := Lib.hid ((wait_any w HU hk))
  rw [hfz] at HW
  clear hm hP he hc ha hf hrow hent hlt hp hb hF hfz HU
  go_enter Try.func10, Try.ntmps10
  go_wp2_with (go_at_call 14; refine HW.out.mono ?_; rintro e w1 ⟨rfl, rfl⟩)
  change Code.wp _ _ _ _ (w.alloc (.cells #[.int .i64 l, .string h] 52))
  have HB2 := Lib.hid (show Blk (w.alloc (.cells #[.int .i64 l, .string h] 52)) w.heap.size 52 #[.int .i64 l, .string h] from Blk.new _ _ _)
  have H2 := Lib.hid (show Below w.heap.size w (w.alloc (.cells #[.int .i64 l, .string h] 52)) from (Below.refl _ _).alloc (Nat.le_refl _) _)
  generalize hqq : w.heap.size = q at *
  have HQ := Lib.hid hqq
  clear hqq
  generalize w.alloc (.cells #[.int .i64 l, .string h] 52) = w2 at *
  have HM2 := Lib.hid (HM.keep (H2.block b (by rw [← HQ.out]; exact HM.lt)))
  have HP2 := Lib.hid (Blk.below HP H2 (by rw [← HQ.out]; exact HP.lt))
  have hp2 : w2.cell? ⟨p, 0, none⟩ = some (.map (some b)) := HP2.cell 0
  have hd0 : w2.cell? ⟨q, 0, none⟩ = some (.int .i64 l) := HB2.cell 0
  have hd1 : w2.cell? ⟨q, 1, none⟩ = some (.string h) := HB2.cell 1
  have hr := hlook w2.drew (Mp.keep (w' := w2.drew) HM2 rfl)
  have HNP := Lib.hid (show some p ≠ (Value.slice (some ⟨g0, 0, none⟩) 1 c).ownBlock from fun hh => by obtain ⟨cur, hb⟩ := HOWN p hh.symm; exact absurd rfl (hb.apart HP (by decide)))
  have HNB := Lib.hid (show some b ≠ (Value.slice (some ⟨g0, 0, none⟩) 1 c).ownBlock from fun hh => by obtain ⟨cur, hb⟩ := HOWN b hh.symm; have := HM.here; unfold Blk at hb; rw [hb] at this; cases this)
  have HNQ := Lib.hid (show some q ≠ (Value.slice (some ⟨g0, 0, none⟩) 1 c).ownBlock from fun hh => by obtain ⟨cur, hb⟩ := HOWN q hh.symm; have := hb.lt; have := HQ.out; omega)
  have hrd := Lib.hid (show w2.drew.ownsRow 0 3 1 (.slice (some ⟨g0, 0, none⟩) 1 c) 1 ([y].map (.int .i64)) from own_keep HROW0 (fun k hk => H2.block k (by obtain ⟨cur, hb⟩ := HOWN k hk; rw [← HQ.out]; exact hb.lt)))
  have HI0 : Hid (Ints w2.drew g0 c [y]) := by
    obtain ⟨g', c', e1, _, _, e2⟩ := Ints.of_own hrd (by omega)
    cases e1
    exact e2
  have hcy : w2.cell? ⟨g0, 0, none⟩ = some (.int .i64 y) := HI0.cell (i := 0) rfl
  go_region
  go_wp2
  change Code.wp _ _ _ _ w2.drew
  clear hr hp2 hd0 hd1 hcy hlook
  have H3 := Lib.hid (show Only (fun k => (Value.slice (some ⟨g0, 0, none⟩) 1 c).ownBlock = some k) w w2.drew from (Only.of_below (HQ.out ▸ H2.out)).drew)
  have HB3 := Lib.hid (show Blk w2.drew q 52 #[.int .i64 l, .string h] from HB2)
  have HM3 := Lib.hid (Mp.keep (w' := w2.drew) HM2 rfl)
  have HP3 := Lib.hid (show Blk w2.drew p 49 #[.map (some b)] from HP2)
  clear HB2 HM2 HP2 H2 hrd HROW0
  generalize w2.drew = w3 at *
  have hd0 : w3.cell? ⟨q, 0, none⟩ = some (.int .i64 l) := HB3.cell 0
  have hd1 : w3.cell? ⟨q, 1, none⟩ = some (.string h) := HB3.cell 1
  have HDEL := Lib.hid (fun v (hv : Ints v g0 c [y]) => del_any v hv (n := 0) rfl)
  go_region_law (first
    | (go_simp; go_at_call 25; refine (HDEL.out _ (show Ints w3.drew g0 c [y] from HI0)).mono ?_; rintro e w4 ⟨rfl, ho4, hi4⟩
       have HO4 := Lib.hid (show Only (fun k => k = g0) w3 w4 from ⟨ho4.os, ho4.tape, ho4.output, ho4.size, ho4.block⟩); have HI4 := Lib.hid hi4
       have HB4 := Lib.hid (Blk.only HB3 HO4 (fun e => HNQ (by subst e; rfl)))
       have HM4 := Lib.hid (Mp.keep HM3 (HO4.block b HM3.lt (fun e => HNB (by subst e; rfl))))
       have HP4 := Lib.hid (Blk.only HP3 HO4 (fun e => HNP (by subst e; rfl)))
       have hc0 := HB4.out.cell 0
       have hc1 := HB4.out.cell 1
       clear ho4 hi4)
    | (go_simp; go_at_call 26; refine (keep_drop w4 (HP4.out.cell 0) HM4.out hk (some ⟨g0, 0, none⟩) c).mono ?_; rintro e w5 ⟨rfl, ho5, es', hm5, e1⟩; have HO5 := Lib.hid ho5; have HM5 := Lib.hid hm5; have E1 := Lib.hid e1; clear ho5 hm5 e1)
    | fail)
  all_goals (
    go_wp2
    go_ret2
    refine ⟨rfl, ?_⟩
    have ho4 : Only (fun k => (Value.slice (some ⟨g0, 0, none⟩) 1 c).ownBlock = some k) w w4 := H3.out.trans HO4 (fun i hi => .inl (by subst hi; rfl))
    exact take_end HP Hp Hb (by rw [HQ.out]; exact HLT) HM HE HC HA HF HENT ho4 HO5 HM5 E1)
end Go.Proofs.Ytacogfllnhopoaa
