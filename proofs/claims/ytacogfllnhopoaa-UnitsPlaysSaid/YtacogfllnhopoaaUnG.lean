/- Add, where eight wait. -/
import Derived.Test.YtacogfllnhopoaaUnE
import Derived.Test.YtacogfllnhopoaaUnD2
namespace Go.Proofs.Ytacogfllnhopoaa
open Go.RowKit Go.Maps
set_option maxHeartbeats 1000000 in
theorem add_full (w : World) {F : Nat → Prop} {p b : Nat} {f : PF} {es : Array MapEntry} {clock : Nat} (hP : Blk w p 49 #[.map (some b)]) (hp : F p) (hb : F b) (hlt : ∀ k, F k → k < w.heap.size)
    (hm : Mp w b es clock) (he : ∀ e ∈ es.toList, Ent w F f e) (hc : ∀ l h, f l h ≠ [] → ∃ e ∈ es.toList, e.key = kv l h) (ha : ∀ e ∈ es.toList, ∀ e' ∈ es.toList, e.val.ownBlock = e'.val.ownBlock → e.key = e'.key) (hf : Fine f)
    (l : Int) (h : ByteArray) (x : Int) (hl : (decide (0 ≤ l) && decide (l < 8)) = true) (hs : h.size ≤ maxLen) (hk : IsKv (kv l h)) (hn : nameB h = true) (hx : (decide (1 ≤ x) && decide (x ≤ 4)) = true)
    (g0 c : Nat) (zs : List Int) (hrow : w.ownsRow 0 3 1 (.slice (some ⟨g0, 0, none⟩) 8 c) 8 (zs.map (.int .i64))) (hent : ∀ k, (Value.slice (some ⟨g0, 0, none⟩) 8 c).ownBlock = some k → ∃ e ∈ es.toList, e.key = kv l h ∧ e.val.ownBlock = some k)
    (hlook : ∀ v, Mp v b es clock → (Instr.lookup 47 (.map (some b)) (.agg #[.int .i64 l, .string h]) false).run Try.prog v = .ok (.slice (some ⟨g0, 0, none⟩) 8 c) v)
    (hn1 : zs.length = 8) (hne : zs.getLast? ≠ some x) :
    Calls Try.prog 8 #[.pointer (some ⟨p, 0, none⟩), .int .i64 l, .string h, .int .i64 x] w fun e w' => e = .returned (.bool true) ∧ UnOut F w p (upd f l h (push8 zs x)) w' := by
  have HM := Lib.hid hm; have HP := Lib.hid hP; have HE := Lib.hid he; have HC := Lib.hid hc; have HA := Lib.hid ha; have HF := Lib.hid hf; have HROW0 := Lib.hid hrow; have HENT := Lib.hid hent; have HLT := Lib.hid hlt; have Hp := Lib.hid hp; have Hb := Lib.hid hb
  have HFi := Lib.hid (show 0 ≤ l ∧ l < 8 ∧ nameB h = true from ⟨by simp at hl; omega, by simp at hl; omega, hn⟩)
  have HHS := Lib.hid (show h.size ≤ 281474976710656 from Nat.le_trans (nameB_size hn) (by omega))
  have HOWN : Hid (∀ k, (Value.slice (some ⟨g0, 0, none⟩) 8 c).ownBlock = some k → ∃ cur, Blk w k 3 cur) := fun k hk => by
    obtain ⟨e, h1, h2, h3⟩ := hent k hk
    obtain ⟨l', h', g', c', k1, k2, k3, k4, cur, k5, _⟩ := he e h1
    rw [k2] at h3
    have : g' = k := by simpa [Value.ownBlock] using h3
    exact ⟨cur, this ▸ k5⟩
  have HPU := Lib.hid (show push8 zs x = zs.drop 1 ++ [x] by unfold push8; rw [if_pos hn1])
  obtain ⟨y, hy⟩ : ∃ y, zs[7]? = some y := ⟨_, List.getElem?_eq_getElem (by omega)⟩
  have hxy : (y == x) = false := by
    have : zs.getLast? = some y := by rw [List.getLast?_eq_getElem?, hn1]; exact hy
    rw [this] at hne
    simpa using hne
  have HY : Hid (∀ v : World, v.ownsRow 0 3 1 (.slice (some ⟨g0, 0, none⟩) 8 c) 8 (zs.map (.int .i64)) → v.cell? ⟨g0, 7, none⟩ = some (.int .i64 y)) := fun v hv => by
    obtain ⟨g', c', e1, _, _, e2⟩ := Ints.of_own hv (by omega)
    cases e1
    exact e2.cell hy
  have HN1 := Lib.hid hn1
  clear hne hy hn1
  clear hm hP he hc ha hf hrow hent hlt hp hb
  obtain ⟨i0, hi0, hz0, hz1, hz2⟩ := info_parts infoInt
  go_enter Try.func8, Try.ntmps8
  go_wp2_with (first | (go_at_call 22; refine (isLun_any _ _).mono ?_; rintro e w' ⟨rfl, rfl⟩) | (go_at_call 23; refine (name_any _ _ hs).mono ?_; rintro e w1 ⟨rfl, hb1⟩; have H1 := Lib.hid hb1; clear hb1) | (go_at_call 24; refine (isWhy_any _ _).mono ?_; rintro e w' ⟨rfl, rfl⟩))
  change Code.wp _ _ _ _ (w1.alloc (.cells #[.int .i64 l, .string h] 52))
  have HB2 := Lib.hid (show Blk (w1.alloc (.cells #[.int .i64 l, .string h] 52)) w1.heap.size 52 #[.int .i64 l, .string h] from Blk.new _ _ _)
  have H2 := Lib.hid (show Below w.heap.size w (w1.alloc (.cells #[.int .i64 l, .string h] 52)) from H1.alloc H1.size _)
  have HQ := Lib.hid H1.size
  generalize w1.alloc (.cells #[.int .i64 l, .string h] 52) = w2 at *
  generalize w1.heap.size = q at *
  clear H1
  have HM2 := Lib.hid (HM.keep (H2.block b HM.lt))
  have HP2 := Lib.hid (Blk.below HP H2 HP.lt)
  have hp2 : w2.cell? ⟨p, 0, none⟩ = some (.map (some b)) := HP2.cell 0
  have hd0 : w2.cell? ⟨q, 0, none⟩ = some (.int .i64 l) := HB2.cell 0
  have hd1 : w2.cell? ⟨q, 1, none⟩ = some (.string h) := HB2.cell 1
  have hr := hlook w2.drew (Mp.keep (w' := w2.drew) HM2 rfl)
  have HNP := Lib.hid (show some p ≠ (Value.slice (some ⟨g0, 0, none⟩) 8 c).ownBlock from fun hh => by obtain ⟨cur, hb⟩ := HOWN p hh.symm; exact absurd rfl (hb.apart HP (by decide)))
  have HNB := Lib.hid (show some b ≠ (Value.slice (some ⟨g0, 0, none⟩) 8 c).ownBlock from fun hh => by obtain ⟨cur, hb⟩ := HOWN b hh.symm; have := HM.here; unfold Blk at hb; rw [hb] at this; cases this)
  have HNQ := Lib.hid (show some q ≠ (Value.slice (some ⟨g0, 0, none⟩) 8 c).ownBlock from fun hh => by obtain ⟨cur, hb⟩ := HOWN q hh.symm; have := hb.lt; have := HQ.out; omega)
  have hcy := HY w2 (own_keep HROW0 (fun k hk => H2.block k (by obtain ⟨cur, hb⟩ := HOWN k hk; exact hb.lt)))
  go_region
  have hrd := Lib.hid (show w2.drew.ownsRow 0 3 1 (.slice (some ⟨g0, 0, none⟩) 8 c) 8 (zs.map (.int .i64)) from own_keep HROW0 (fun k hk => H2.block k (by obtain ⟨cur, hb⟩ := HOWN k hk; exact hb.lt)))
  have HI0 : Hid (Ints w2.drew g0 c zs) := by
    obtain ⟨g', c', e1, _, _, e2⟩ := Ints.of_own hrd (by omega)
    cases e1
    exact e2
  go_wp2_with (go_at_call 25; refine (del_any w2.drew HI0 HN1).mono ?_; rintro e w3 ⟨rfl, ho3, hi3⟩; have HO3 := Lib.hid ho3; have HI3 := Lib.hid hi3; clear ho3 hi3)
  clear hr hp2 hd0 hd1 hcy
  have H3 := Lib.hid (show Only (fun k => (Value.slice (some ⟨g0, 0, none⟩) 7 c).ownBlock = some k) w w3 from ((Only.of_below H2.out).drew).trans HO3 (fun i hi => .inl (by subst hi; rfl)))
  have HB3 := Lib.hid (Blk.only (show Blk w2.drew q 52 #[.int .i64 l, .string h] from HB2) HO3 (fun e => HNQ (by subst e; rfl)))
  have HM3 := Lib.hid (Mp.keep (Mp.keep (w' := w2.drew) HM2 rfl) (HO3.block b HM2.lt (fun e => HNB (by subst e; rfl))))
  have HP3 := Lib.hid (Blk.only (show Blk w2.drew p 49 #[.map (some b)] from HP2) HO3 (fun e => HNP (by subst e; rfl)))
  have HHO : Hid (∀ k, (Value.slice (some ⟨g0, 0, none⟩) 7 c).ownBlock = some k → ∃ cur, Blk w k 3 cur) := HOWN
  have HHE : Hid (∀ k, (Value.slice (some ⟨g0, 0, none⟩) 7 c).ownBlock = some k → ∃ e ∈ es.toList, e.key = kv l h ∧ e.val.ownBlock = some k) := HENT
  have HHQ : Hid (some q ≠ (Value.slice (some ⟨g0, 0, none⟩) 7 c).ownBlock) := HNQ
  have HHP : Hid (some p ≠ (Value.slice (some ⟨g0, 0, none⟩) 7 c).ownBlock) := HNP
  have HHB : Hid (some b ≠ (Value.slice (some ⟨g0, 0, none⟩) 7 c).ownBlock) := HNB
  obtain ⟨zt, hzt⟩ : ∃ zt, zt = zs.drop 1 := ⟨_, rfl⟩
  have HPT := Lib.hid (show push8 zs x = zt ++ [x] by rw [hzt]; exact HPU)
  have HROW1 := Lib.hid (show w3.ownsRow 0 3 1 (.slice (some ⟨g0, 0, none⟩) 7 c) 7 (zt.map (.int .i64)) by
    rw [hzt]
    have h7 : (zs.drop 1).length = 7 := by rw [List.length_drop, HN1.out]
    have := HI3.out.own (Nat.zero_le g0)
    rw [h7] at this
    exact this)
  clear hzt HROW0 HPU HOWN HENT HNQ HNP HNB HB2 HM2 HP2 H2 HO3 HI3 hrd HI0
  have HOWN := HHO; have HENT := HHE; have HNQ := HHQ; have HNP := HHP; have HNB := HHB
  clear HHO HHE HHQ HHP HHB
  have hd0 : w3.cell? ⟨q, 0, none⟩ = some (.int .i64 l) := HB3.cell 0
  have hd1 : w3.cell? ⟨q, 1, none⟩ = some (.string h) := HB3.cell 1
  have ha0 : (w3.alloc (.cells #[.int .i64 x] 3)).cell? ⟨q, 0, none⟩ = some (.int .i64 l) := (Blk.alloc HB3 _).cell 0
  have ha1 : (w3.alloc (.cells #[.int .i64 x] 3)).cell? ⟨q, 1, none⟩ = some (.string h) := (Blk.alloc HB3 _).cell 1
  have HX := Lib.hid (show ∀ j u, [Value.int .i64 x][j]? = some u → (w3.alloc (.cells #[.int .i64 x] 3)).drew.cell? ((⟨w3.heap.size, 0, none⟩ : Addr).add j) = some u from cell_one_new w3 (.int .i64 x) 3)
  have HRW := Lib.hid (show (w3.alloc (.cells #[.int .i64 x] 3)).drew.ownsRow 0 3 1 (.slice (some ⟨g0, 0, none⟩) 7 c) 7 (zt.map (.int .i64)) from own_keep HROW1 (fun k hk => Below.heap_alloc w3 _ k (by obtain ⟨cur, hb⟩ := HOWN k hk; exact Nat.lt_of_lt_of_le hb.lt H3.size)))
  have HBB := Lib.hid (show 7 + 1 ≤ maxLen by unfold maxLen; omega)
  have HBY := Lib.hid (show (7 + 1) * 8 ≤ 140737488355328 by omega)
  clear hlook
  go_region_law (first
    | (refine step_append_lies _ (by rfl) (.tmp 57) (.tmp 59) 41 (by rfl) 0 3 i0 _ 1 8 Try.underlying41 hi0 hz0 hz1 hz2 rfl (by omega) (.slice (some ⟨g0, 0, none⟩) 7 c) 7 (zt.map (.int .i64)) (by rfl) HRW.out ⟨w3.heap.size, 0, none⟩ 1 1 [.int .i64 x] (by rfl) rfl HX.out (fun u hu => by rw [List.mem_singleton.1 hu]; rfl) (by omega) HBB.out HBY.out (Nat.zero_le _) _ rfl ?_
       intro g cap w4 hown hgr hge hglt
       have HOW := Lib.hid hown; have HGE := Lib.hid hge; have HGR := Lib.hid hgr
       have HB4 := Lib.hid (Blk.grown (show Blk (w3.alloc (.cells #[.int .i64 x] 3)).drew q 52 #[.int .i64 l, .string h] from (Blk.alloc HB3 _).drew) hgr HNQ.out)
       have hc0 := HB4.out.cell 0
       have hc1 := HB4.out.cell 1
       have HM4 := Lib.hid (Mp.keep (w' := w4) (show Mp (w3.alloc (.cells #[.int .i64 x] 3)).drew b es clock from Mp.keep HM3 (Below.heap_alloc w3 _ b HM3.lt)) (hgr.block b (by have := HM3.lt; simp; omega) HNB.out))
       have HP4 := Lib.hid (Blk.grown (show Blk (w3.alloc (.cells #[.int .i64 x] 3)).drew p 49 #[.map (some b)] from (Blk.alloc HP3 _).drew) hgr HNP.out)
       clear hown hgr hge hglt)
    | (go_simp; go_at_call 26; refine (keep_store w4 (HP4.out.cell 0) HM4.out hk HHS.out (some ⟨g, 0, none⟩) (7 + 1) cap (by omega)).mono ?_; rintro e w5 ⟨rfl, ho5, es', clock', hm5, e1, e2, e3⟩; have HO5 := Lib.hid ho5; have HM5 := Lib.hid hm5; have E1 := Lib.hid e1; have E2 := Lib.hid e2; have E3 := Lib.hid e3; clear ho5 hm5 e1 e2 e3)
    | fail)
  all_goals (
    go_wp2
    go_ret
    refine ⟨rfl, ?_⟩
    have hl8 : (zt ++ [x]).length ≤ 8 := by have := HROW1.out.1; simp at this ⊢; omega
    have ho4 : Only (fun k => (Value.slice (some ⟨g0, 0, none⟩) 7 c).ownBlock = some k) w w4 := ((H3.out.alloc _).drew).grown HGR.out (fun k hk => .inl hk)
    rw [HPT.out]
    exact add_end HP Hp Hb HLT HM HE HC HA HF HENT ho4 (Nat.succ_pos _) (zs := zt ++ [x]) (by simpa using HOW.out) (HGE.out.imp id (fun hh => by have := H3.out.size; rw [hh]; simp; omega)) HO5 HM5 E1 E2 E3 ⟨HFi.1, HFi.2.1, HFi.2.2, hl8⟩)
end Go.Proofs.Ytacogfllnhopoaa
