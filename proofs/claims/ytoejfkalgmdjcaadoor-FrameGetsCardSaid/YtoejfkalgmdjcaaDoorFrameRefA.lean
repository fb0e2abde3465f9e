/- The frame with which a text begins, by the document's own words. -/
import Derived.Test.YtoejfkalgmdjcaaDoorFrameWakes
import Derived.Deep.Cut
import Derived.Deep.CutBlock
import Derived.Deep.RegionWith
import Derived.RegionTactic
import Derived.BigRegion
namespace Go.Proofs.YtoejfkalgmdjcaaDoor
open Go.RowKit
theorem info34 : (Tryd.prog.info? 34).map (·.size) = some 3 := by kernel_rfl
theorem results_frame {fn : Func} {p q : Tmp} (h : fn.results = #[.cell p 34, .tmp q]) (tmps : Array Value) (w : World) (g : Nat) (x y z : Value)
    (hp : tmps.getD p undef = .pointer (some ⟨g, 0, none⟩)) (hg : Blk w g 34 #[x, y, z]) :
    (results fn tmps).run Tryd.prog w = .ok (.tuple #[.agg #[x, y, z], tmps.getD q undef]) w := by
  have hp' : tmps[p]?.getD undef = .pointer (some ⟨g, 0, none⟩) := by simpa using hp
  simp [results, h, hp', asAddr, run_loadVar_row w g 34 34 #[x, y, z] (0, 0) _ hg Tryd.underlying34 rfl info34]
def noF : Value := .agg #[.int .u64 0, .string ⟨#[]⟩, .int .i64 0]
def RefAt (w wx : World) : Prop := Blk wx w.heap.size 34 #[.int .u64 0, .string ⟨#[]⟩, .int .i64 0] ∧ Below w.heap.size w wx
theorem RefAt.new (w : World) : RefAt w (w.alloc (.cells #[.int .u64 0, .string ⟨#[]⟩, .int .i64 0] 34)) := ⟨Blk.new w 34 _, (Below.refl _ w).alloc (Nat.le_refl _) _⟩
theorem RefAt.more {w w1 w2 : World} (h : RefAt w w1) (hb : Below w1.heap.size w1 w2) : RefAt w w2 := ⟨h.1.below hb h.1.lt, h.2.trans (hb.mono h.2.size)⟩
theorem RefAt.drew {w w1 : World} (h : RefAt w w1) : RefAt w w1.drew := ⟨h.1.drew, h.2.drew⟩
theorem mark_beq (s : ByteArray) (b : Bool) (h : decide (s.extract 0 4 = markS) = b) : ((s.extract 0 4).toList == [72, 71, 70, 82]) = b := by
  have := beqS (s.extract 0 4) markS
  rw [h, show markS.toList = [72, 71, 70, 82] by rw [ByteArray.toList_eq]; rfl] at this
  exact this
set_option maxRecDepth 100000 in
set_option maxHeartbeats 1000000 in
theorem refGet_none (s : ByteArray) (w : World) (hs : s.size ≤ 100000) (hn : ¬ Begun s) :
    Calls Tryd.prog 15 #[.string s] w fun e w' => e = .returned (.tuple #[noF, .int .i64 50]) ∧ Below w.heap.size w w' := by
  have HR := Lib.hid (RefAt.new w)
  by_cases h1 : 20 ≤ s.size
  · have h1i : ¬ (s.size : Int) < 20 := by omega
    have h2 : ¬ s.extract 0 4 = markS := fun h => hn ⟨h1, h⟩
    have h4 : (4 : Int) ≤ s.size := by omega
    have hb : ((s.extract 0 4).toList == [72, 71, 70, 82]) = false := mark_beq s _ (decide_eq_false h2)
    have HN := Lib.hid hn; clear hn
    go_enter Tryd.func15, Tryd.ntmps15
    go_wp2
    refine bodyPost_ret (results_frame rfl _ _ w.heap.size _ _ _ rfl HR.out.1) rfl ?_
    exact ⟨rfl, HR.out.2⟩
  · have h1i : (s.size : Int) < 20 := by omega
    have HN := Lib.hid hn; clear hn
    go_enter Tryd.func15, Tryd.ntmps15
    go_wp2
    refine bodyPost_ret (results_frame rfl _ _ w.heap.size _ _ _ rfl HR.out.1) rfl ?_
    exact ⟨rfl, HR.out.2⟩
theorem set_at {w : World} {b i : Nat} {t : TypeId} {cs : Array Value} {v : Value} (h : Blk w b t cs) (hi : cs[i]? = some v) : w.setCell ⟨b, i, none⟩ v = w := by
  have e : (w.setCell ⟨b, i, none⟩ v).heap = w.heap := by
    apply Array.ext_getElem?
    intro k
    by_cases hk : k = b
    · subst hk
      refine (Blk.put h i v).trans (Eq.trans ?_ h.symm)
      congr 2
      apply Array.ext_getElem?
      intro j
      by_cases hj : i = j
      · subst hj
        obtain ⟨hlt, _⟩ := Array.getElem?_eq_some_iff.1 hi
        rw [Array.getElem?_setIfInBounds_self_of_lt hlt, hi]
      · rw [Array.getElem?_setIfInBounds_ne hj]
    · exact Below.heap_setCell w ⟨b, i, none⟩ v k hk
  have e2 : w.setCell ⟨b, i, none⟩ v = { w with heap := (w.setCell ⟨b, i, none⟩ v).heap } := rfl
  rw [e2, e]
theorem allZ_yes (s : ByteArray) (a b : Nat) (h : allZ (s.extract a b) = true) (i : Nat) (h1 : a ≤ i) (h2 : i < b) (h3 : i < s.size) : (s[i]'h3).toNat = 0 := by
  unfold allZ at h
  rw [ext_list] at h
  have hx : (s[i]'h3) ∈ (s.data.toList.take b).drop a := by
    refine List.mem_of_getElem? (i := i - a) ?_
    rw [List.getElem?_drop, List.getElem?_take, if_pos (by omega), show a + (i - a) = i by omega]
    exact List.getElem?_eq_getElem (by simpa using h3)
  have := List.all_eq_true.1 h _ hx
  have : (s[i]'h3) = 0 := by simpa using this
  rw [this]; rfl
theorem allZ_no (s : ByteArray) (a b : Nat) (hb : b ≤ s.size) (h : allZ (s.extract a b) = false) :
    ∃ j, a ≤ j ∧ j < b ∧ (∀ h3 : j < s.size, ¬ (s[j]'h3).toNat = 0) ∧ ∀ i, a ≤ i → i < j → ∀ h3 : i < s.size, (s[i]'h3).toNat = 0 := by
  have hex : ∃ j, a ≤ j ∧ j < b ∧ ∀ h3 : j < s.size, ¬ (s[j]'h3).toNat = 0 := by
    apply Classical.byContradiction
    intro hno
    have : allZ (s.extract a b) = true := by
      unfold allZ
      rw [ext_list]
      refine List.all_eq_true.2 fun x hx => ?_
      obtain ⟨k, hk⟩ := List.getElem?_of_mem hx
      rw [List.getElem?_drop, List.getElem?_take] at hk
      by_cases hlt : a + k < b
      · rw [if_pos hlt] at hk
        have hsz : a + k < s.size := by omega
        rw [List.getElem?_eq_getElem (by simpa using hsz)] at hk
        have hxe : (s[a + k]'hsz) = x := Option.some.inj hk
        apply Classical.byContradiction
        intro hx0
        refine hno ⟨a + k, by omega, hlt, fun h3 e => hx0 ?_⟩
        rw [hxe] at e
        have : x = 0 := UInt8.toNat_inj.1 e
        simp [this]
      · rw [if_neg hlt] at hk; cases hk
    rw [this] at h
    cases h
  have hfind : ∀ n j, j ≤ n → (a ≤ j ∧ j < b ∧ ∀ h3 : j < s.size, ¬ (s[j]'h3).toNat = 0) → ∃ j, a ≤ j ∧ j < b ∧ (∀ h3 : j < s.size, ¬ (s[j]'h3).toNat = 0) ∧ ∀ i, a ≤ i → i < j → ∀ h3 : i < s.size, (s[i]'h3).toNat = 0 := by
    intro n
    induction n with
    | zero =>
      intro j hj hp
      exact ⟨j, hp.1, hp.2.1, hp.2.2, fun i h1 h2 => absurd h2 (by omega)⟩
    | succ n ih =>
      intro j hj hp
      by_cases hs : ∃ i, a ≤ i ∧ i < j ∧ ∀ h3 : i < s.size, ¬ (s[i]'h3).toNat = 0
      · obtain ⟨i, h1, h2, h3⟩ := hs
        exact ih i (by omega) ⟨h1, by omega, h3⟩
      · refine ⟨j, hp.1, hp.2.1, hp.2.2, fun i h1 h2 h3 => ?_⟩
        apply Classical.byContradiction
        intro h0
        exact hs ⟨i, h1, h2, fun _ => h0⟩
  obtain ⟨j, hj⟩ := hex
  exact hfind j j (Nat.le_refl _) hj
set_option maxRecDepth 100000 in
set_option maxHeartbeats 1000000 in
theorem refGet_sum (s : ByteArray) (w : World) (hs : s.size ≤ 100000) (hn : Begun s) (hd : ¬ s.extract 16 20 = digV (s.extract 0 16)) :
    Calls Tryd.prog 15 #[.string s] w fun e w' => e = .returned (.tuple #[noF, .int .i64 51]) ∧ Below w.heap.size w w' := by
  have HR := Lib.hid (RefAt.new w)
  have h20n := hn.1
  have h1i : ¬ (s.size : Int) < 20 := by omega
  have h4 : (4 : Int) ≤ s.size := by omega
  have h16 : (16 : Int) ≤ s.size := by omega
  have h20 : (20 : Int) ≤ s.size := by omega
  have hb : ((s.extract 0 4).toList == [72, 71, 70, 82]) = true := mark_beq s _ (decide_eq_true hn.2)
  have hq : ((s.extract 16 20).toList == (digV (s.extract 0 16)).toList) = false := by rw [beqS, decide_eq_false hd]
  have z16 := ext_size s 0 16 (by omega)
  have HN := Lib.hid hn; clear hn
  have HD := Lib.hid hd; clear hd
  go_enter Tryd.func15, Tryd.ntmps15
  go_upto_region 3 with (fail)
  go_cut [25] (fun s25 wx => s25 = .bool true ∧ RefAt w wx)
  case first =>
    go_region_with (go_at_call 26; refine (refDigest_any (s.extract 0 16) _ (by unfold maxLen; omega)).mono ?_; rintro e w1 ⟨rfl, hb1⟩)
    all_goals (go_wp2_with (fail); go_meet; exact ⟨rfl, HR.out.drew.more hb1⟩)
  case rest =>
    obtain ⟨rfl, hr⟩ := hcut
    have HR2 := Lib.hid hr; clear hr
    clear hq
    have c0 : wc.cell? ⟨w.heap.size, 0, none⟩ = some (.int .u64 0) := HR2.out.1.cell 0
    have c1 : wc.cell? ⟨w.heap.size, 1, none⟩ = some (.string ⟨#[]⟩) := HR2.out.1.cell 1
    have c2 : wc.cell? ⟨w.heap.size, 2, none⟩ = some (.int .i64 0) := HR2.out.1.cell 2
    have f0 := HR2.out.1.free 0
    have f1 := HR2.out.1.free 1
    have f2 := HR2.out.1.free 2
    have s0 : wc.setCell ⟨w.heap.size, 0, none⟩ (.int .u64 0) = wc := set_at HR2.out.1 rfl
    have s1 : wc.setCell ⟨w.heap.size, 1, none⟩ (.string ⟨#[]⟩) = wc := set_at HR2.out.1 rfl
    have s2 : wc.setCell ⟨w.heap.size, 2, none⟩ (.int .i64 0) = wc := set_at HR2.out.1 rfl
    go_wp2
    refine bodyPost_ret (results_frame rfl _ _ w.heap.size _ _ _ rfl HR2.out.1) rfl ?_
    exact ⟨rfl, HR2.out.2⟩
set_option maxRecDepth 100000 in
set_option maxHeartbeats 1000000 in
theorem refGet_long (s : ByteArray) (w : World) (hs : s.size ≤ 100000) (hn : Begun s) (hd : s.extract 16 20 = digV (s.extract 0 16)) (hl : ¬ lenF s ≤ 65536) :
    Calls Tryd.prog 15 #[.string s] w fun e w' => e = .returned (.tuple #[noF, .int .i64 50]) ∧ Below w.heap.size w w' := by
  have HR := Lib.hid (RefAt.new w)
  have h20n := hn.1
  have h1i : ¬ (s.size : Int) < 20 := by omega
  have h4 : (4 : Int) ≤ s.size := by omega
  have h16 : (16 : Int) ≤ s.size := by omega
  have h20 : (20 : Int) ≤ s.size := by omega
  have hb : ((s.extract 0 4).toList == [72, 71, 70, 82]) = true := mark_beq s _ (decide_eq_true hn.2)
  have hq : ((s.extract 16 20).toList == (digV (s.extract 0 16)).toList) = true := by rw [beqS, decide_eq_true hd]
  have n1 : bigR s 4 8 = numF s := bigR_yes (a := 4) (n := 8) (okB_yes (by omega))
  have n2 : bigR s 12 4 = lenF s := bigR_yes (a := 12) (n := 4) (okB_yes (by omega))
  have N1 := Lib.hid n1; have N2 := Lib.hid n2; clear n1 n2
  have ll := lenF_lt s
  have hli : (65536 : Int) < lenF s := by omega
  have z16 := ext_size s 0 16 (by omega)
  have HN := Lib.hid hn; clear hn
  have HD := Lib.hid hd; clear hd
  go_enter Tryd.func15, Tryd.ntmps15
  go_upto_region 3 with (fail)
  go_cut [25] (fun s25 wx => s25 = .bool false ∧ RefAt w wx)
  case first =>
    go_region_with (go_at_call 26; refine (refDigest_any (s.extract 0 16) _ (by unfold maxLen; omega)).mono ?_; rintro e w1 ⟨rfl, hb1⟩)
    all_goals (go_wp2_with (fail); go_meet; exact ⟨rfl, HR.out.drew.more hb1⟩)
  case rest =>
    obtain ⟨rfl, hr⟩ := hcut
    have HR2 := Lib.hid hr; clear hr
    clear hq
    go_wp2_with (fail)
    refine (refBig_any s 4 8 _ (by unfold maxLen; omega)).mono ?_; rintro e w2 ⟨rfl, rfl⟩
    rw [N1.out]
    go_wp2_with (fail)
    refine (refBig_any s 12 4 _ (by unfold maxLen; omega)).mono ?_; rintro e w3 ⟨rfl, rfl⟩
    rw [N2.out]
    have c0 : wc.cell? ⟨w.heap.size, 0, none⟩ = some (.int .u64 0) := HR2.out.1.cell 0
    have c1 : wc.cell? ⟨w.heap.size, 1, none⟩ = some (.string ⟨#[]⟩) := HR2.out.1.cell 1
    have c2 : wc.cell? ⟨w.heap.size, 2, none⟩ = some (.int .i64 0) := HR2.out.1.cell 2
    have f0 := HR2.out.1.free 0
    have f1 := HR2.out.1.free 1
    have f2 := HR2.out.1.free 2
    have s0 : wc.setCell ⟨w.heap.size, 0, none⟩ (.int .u64 0) = wc := set_at HR2.out.1 rfl
    have s1 : wc.setCell ⟨w.heap.size, 1, none⟩ (.string ⟨#[]⟩) = wc := set_at HR2.out.1 rfl
    have s2 : wc.setCell ⟨w.heap.size, 2, none⟩ (.int .i64 0) = wc := set_at HR2.out.1 rfl
    go_wp2
    refine bodyPost_ret (results_frame rfl _ _ w.heap.size _ _ _ rfl HR2.out.1) rfl ?_
    exact ⟨rfl, HR2.out.2⟩
end Go.Proofs.YtoejfkalgmdjcaaDoor
