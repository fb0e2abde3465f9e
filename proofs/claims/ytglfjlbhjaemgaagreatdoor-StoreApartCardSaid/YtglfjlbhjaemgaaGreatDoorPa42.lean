/- store: Clear of a range that the unit does not have. store's statements: ranges copied into a new list. store's statements: what is read of what was written. store's statements: wakes. -/
import Derived.Test.YtglfjlbhjaemgaaGreatDoorPa41
import Derived.Test.YtglfjlbhjaemgaaGreatDoorPa14
import Derived.Test.YtglfjlbhjaemgaaGreatDoorPa32
namespace Go.Proofs.YtglfjlbhjaemgaaGreatDoor
open Go.RowKit
open Ext (Ex Exts exV ExtsF textX)
set_option maxRecDepth 100000 in
set_option maxHeartbeats 2000000 in
theorem sclear_bad (w : World) {S : Nat → Prop} {s p q n : Nat} {x : St} {j : Jn} {st : Sto} {lun : Nat} {t : Tb} (h : Has w S s p q n x j st) (htk : t.Ok) (ht : st.l[lun]? = some t) (A : Option Addr) (c0 : Nat) (l : List (Int × Int)) (hl : RngI w A l) (hA : 0 < l.length → ∀ a, A = some a → ¬ S a.block) (hlen : l.length ≤ 16) (hal : allB t.n l = false) (hr : ∀ r ∈ l, -9223372036854775808 ≤ r.1 ∧ r.1 ≤ 9223372036854775807) :
    Calls Tryz.prog 27 #[.pointer (some ⟨s, 0, none⟩), .int .i64 (lun : Int), .slice A l.length c0] w fun e w' => e = .returned (.int .i64 81) ∧ SOut S w s p q n x j st w' := by
  have HT := Lib.hid (table_ok w h lun t ht)
  unfold tbV at HT
  have HH : Hid (∀ (E : Option Addr) (ce : Nat) (r : Int × Int), r ∈ l → ∀ v, Calls Tryz.prog 67 #[tbV t E ce, .int .i64 r.1, .int .i64 r.2] v fun e w' => e = .returned (.bool (hasB t.n r.1 r.2)) ∧ Below v.heap.size v w') := Lib.hid (fun E ce r hrm v => has_any t E ce r.1 r.2 v (by have := htk.n1; omega) (by have := htk.n2; omega) (hr r hrm))
  unfold tbV at HH
  have HSD0 := Lib.hid (fun v T (hh : SD v T s p q n x j st) v' (hv : Below v.heap.size v v') => hh.below hv)
  have HL := Lib.hid hl; have HA := Lib.hid hA
  have HAL : Hid (¬ ∀ (k : Nat) (r : Int × Int), l[k]? = some r → hasB t.n r.1 r.2 = true) := Lib.hid (fun hh => by
    have : allB t.n l = true := by
      unfold allB
      rw [List.all_eq_true]
      intro r hr
      obtain ⟨k, hk⟩ := List.mem_iff_getElem?.1 hr
      exact hh k r hk
    rw [hal] at this
    cases this)
  have hzz : ¬ (16 : Int) < (l.length : Int) := by omega
  clear h ht hl hA hal hr htk
  go_enter Tryz.func27, Tryz.ntmps27
  go_wp2_with (fail)
  refine HT.out.mono ?_; rintro e w1 ⟨E, c, S1, rfl, hsd, _, _, ho, hg⟩
  obtain ⟨hnb, hb1⟩ := one_alloc w1 #[.int .i64 t.n, .string t.id, .string t.rc, .slice E t.ex.length c] 140 _ rfl
  have HB := Lib.hid hb1; have HNB := Lib.hid hnb
  have HSD := Lib.hid hsd; have HO := Lib.hid ho; have HG := Lib.hid hg
  have HLW := Lib.hid ((HL.out.only ho HA.out).below hb1)
  have hnt := hnot_true (w1.alloc (.cells #[.int .i64 t.n, .string t.id, .string t.rc, .slice E t.ex.length c] 140))
  clear hsd ho hg hb1 hnb HT HL HA
  go_wp2_with (fail)
  generalize (w1.alloc (.cells #[.int .i64 t.n, .string t.id, .string t.rc, .slice E t.ex.length c] 140)) = w0 at *
  go_loopw [24] (fun i v => ∃ m : Nat, i = .int .i64 m ∧ m ≤ l.length ∧ (∀ (k : Nat) (r : Int × Int), k < m → l[k]? = some r → hasB t.n r.1 r.2 = true) ∧ Below w0.heap.size w0 v) (fun i _ => l.length - (intOf i).toNat)
  case atStart => exact ⟨0, rfl, Nat.zero_le _, fun k r hk => absurd hk (Nat.not_lt_zero _), Below.refl _ _⟩
  case round =>
    obtain ⟨m, rfl, hm, hpre, hbl⟩ := hrel
    have HPRE := Lib.hid hpre
    clear hpre
    have HBL := Lib.hid hbl
    have HLV := Lib.hid (HLW.out.below hbl)
    have HNV := Lib.hid (HNB.out.below hbl HNB.out.lt)
    clear hbl
    generalize wr = v at *
    by_cases hlt : m < l.length
    · have hki : (m : Int) < l.length := by omega
      obtain ⟨b, o, r, rfl, hat, c0', c1'⟩ := HLV.out.at_ hlt
      have HHr := Lib.hid (HH.out E c r (List.mem_of_getElem? hat))
      obtain ⟨r1, r2⟩ := r
      have HAT := Lib.hid hat
      obtain ⟨hv, hhv⟩ : ∃ hv, hasB t.n r1 r2 = hv := ⟨_, rfl⟩
      have HHV := Lib.hid hhv
      simp only at c0' c1' HHr
      rw [hhv] at HHr
      have k0 := (HNV.out.cell 0).trans rfl
      have k1 := (HNV.out.cell 1).trans rfl
      have k2 := (HNV.out.cell 2).trans rfl
      have k3 := (HNV.out.cell 3).trans rfl
      have hwk : IntKind.i64.wrap ((m : Int) + 1) = ((m + 1 : Nat) : Int) := by rw [i64w _ (by omega)]; omega
      obtain ⟨hn2, hb2⟩ := one_alloc v #[.int .i64 r1, .int .i64 r2] 51 _ rfl
      have HN2 := Lib.hid hn2; have HB2 := Lib.hid hb2
      have HNV2 := Lib.hid (HNV.out.below hb2 HNV.out.lt)
      clear hat hn2 hb2 hhv
      go_upto_region 9 with (fail)
      have g0 := (HNV2.out.cell 0).trans rfl
      have g1 := (HNV2.out.cell 1).trans rfl
      have g2 := (HNV2.out.cell 2).trans rfl
      have g3 := (HNV2.out.cell 3).trans rfl
      have e0 := (HN2.out.cell 0).trans rfl
      have e1 := (HN2.out.cell 1).trans rfl
      clear k0 k1 k2 k3 c0' c1'
      generalize (v.alloc (.cells #[.int .i64 r1, .int .i64 r2] 51)) = v2 at *
      go_wp2_with (fail)
      refine (HHr.out _).mono ?_; rintro e v3 ⟨rfl, hb3⟩
      have HB3 := Lib.hid (HBL.out.trans ((HB2.out.trans (hb3.mono HB2.out.size)).mono HBL.out.size))
      clear hb3
      cases hv with
      | true =>
        have hnt3 := hnot_true v3
        go_wp2_with (fail)
        exact ⟨⟨m + 1, rfl, hlt, fun k r hk hkr => by
          by_cases hkm : k < m
          · exact HPRE.out k r hkm hkr
          · obtain rfl : k = m := by omega
            rw [HAT.out] at hkr
            obtain rfl := Option.some.inj hkr
            exact HHV.out, HB3.out⟩, by simp only [intOf]; omega⟩
      | false =>
        have hnt3 := hnot_false v3
        have R := Lib.hid (SOut.trans HO.out HG.out (SOut.of_below HSD.out (HB.out.trans (HB3.out.mono HB.out.size))))
        go_wp2_with (fail)
        go_ret
        exact ⟨rfl, R.out⟩
    · obtain rfl : m = l.length := by omega
      exact absurd (fun k r hk => HPRE.out k r (List.getElem?_eq_some_iff.1 hk).1 hk) HAL.out
open Go.RowKit
def rcs : List (Int × Int) → List Value
  | [] => []
  | r :: l => .int .i64 r.1 :: .int .i64 r.2 :: rcs l
theorem rcs_length : ∀ l : List (Int × Int), (rcs l).length = l.length * 2
  | [] => rfl
  | r :: l => by show (rcs l).length + 1 + 1 = (l.length + 1) * 2; rw [rcs_length l]; omega
theorem rcs_get : ∀ {l : List (Int × Int)} {j : Nat} {r : Int × Int}, l[j]? = some r → (rcs l)[j * 2]? = some (.int .i64 r.1) ∧ (rcs l)[j * 2 + 1]? = some (.int .i64 r.2)
  | y :: l, 0, r, h => by
    obtain rfl : y = r := by simpa using h
    exact ⟨rfl, rfl⟩
  | y :: l, j + 1, r, h => by
    obtain ⟨h1, h2⟩ := rcs_get (l := l) (j := j) (r := r) (by simpa using h)
    rw [show (j + 1) * 2 = j * 2 + 1 + 1 by omega]
    exact ⟨by simpa [rcs] using h1, by simpa [rcs] using h2⟩
theorem rcs_one {l : List (Int × Int)} : ∀ u ∈ rcs l, u.oneCell' = true := by
  induction l with
  | nil => intro u hu; cases hu
  | cons r l ih =>
    intro u hu
    rcases List.mem_cons.1 hu with rfl | hu
    · rfl
    · rcases List.mem_cons.1 hu with rfl | hu
      · rfl
      · exact ih u hu
theorem infoRg : (Tryz.prog.info? 51).map (fun i => (i.zero, i.size, i.bytes)) = some (some (.agg #[.int .i64 0, .int .i64 0]), 2, 16) := by kernel_rfl
theorem rngs_of_own {w : World} {base n : Nat} {v : Value} {l : List (Int × Int)} (h : w.ownsRow base 51 2 v n (rcs l)) (hln : l.length = n) : ∃ A c, v = .slice A l.length c ∧ RngI w A l ∧ (0 < l.length → ∀ a, A = some a → base ≤ a.block) := by
  obtain ⟨A, c, rfl⟩ := own_form h
  subst hln
  refine ⟨A, c, rfl, fun hn => ?_, fun hn a ha => ?_⟩
  · obtain ⟨g, cur, rfl, _, hg, ht⟩ := Ext.own_some h hn
    refine ⟨g, 0, rfl, fun j r hj => ?_⟩
    have hlt := (List.getElem?_eq_some_iff.1 hj).1
    obtain ⟨g0, g1⟩ := rcs_get hj
    have key : ∀ i v, i < l.length * 2 → (rcs l)[i]? = some v → cur[i]? = some v := fun i v hi hv => by
      rw [← ht, List.getElem?_take, if_pos (by omega)] at hv
      simpa using hv
    have hb : Blk w g 51 cur := hg
    exact ⟨by rw [Nat.zero_add, hb.cell]; exact key _ _ (by omega) g0, by rw [Nat.zero_add, hb.cell]; exact key _ _ (by omega) g1⟩
  · subst ha
    exact (h.lt a.block rfl).1
/-- 'append([]api.Range{}, l...)'. -/
theorem wpList_append_rngs {ops : Array Oper} {rest : List Oper} {o : Oper} {a : Act} {w : World} {Q : Exit → Act → World → Prop} (hgd : o.guard = none) (s x : Operand)
    (ho : o.op = .call { callee := .builtin .append, args := #[s, x], argTypes := #[52, 52] }) (B : Nat) (v : Value) (hs : a.eval s = v) (hown : w.ownsRow B 51 2 v 0 [])
    (A : Option Addr) (c : Nat) (l : List (Int × Int)) (hx : a.eval x = .slice A l.length c) (hl : RngI w A l) (hm : l.length ≤ 100000) (hB : B ≤ w.heap.size)
    (h : ∀ A' c' w', RngI w' A' l → w.grownBy w' v.ownBlock → (0 < l.length → ∀ a, A' = some a → B ≤ a.block) → wpList Tryz.prog ops Q rest (a.put o.dst (.slice A' l.length c')) w') : wpList Tryz.prog ops Q (o :: rest) a w := by
  obtain ⟨i0, hi0, hz0, hz1, hz2⟩ := info_parts infoRg
  have key : ∃ v' w', (Builtin.append_ #[52, 52] o.type #[v, .slice A l.length c]).run Tryz.prog w = .ok v' w' ∧ w'.ownsRow B 51 2 v' l.length (rcs l) ∧ w.grownBy w' v.ownBlock := by
    cases A with
    | none =>
      have h0 : l = [] := by
        cases l with
        | nil => rfl
        | cons k ks =>
          obtain ⟨b, o, e, _⟩ := hl (by simp)
          cases e
      subst h0
      exact ⟨v, w, run_append_none w o.type B 51 i0 52 Tryz.underlying52 hi0 v 0 2 [] hown c, hown, World.grownBy.refl w _⟩
    | some ad =>
      have hc : ∀ j u, (rcs l)[j]? = some u → w.cell? (ad.add j) = some u := by
        intro j u hu
        have hlt := (List.getElem?_eq_some_iff.1 hu).1
        rw [rcs_length] at hlt
        obtain ⟨b, o, e, hc⟩ := hl (by omega)
        obtain rfl : ad = ⟨b, o, none⟩ := Option.some.inj e
        rw [Addr.add_lit]
        have hj2 : j / 2 < l.length := by omega
        have hr := List.getElem?_eq_getElem hj2
        obtain ⟨g0, g1⟩ := rcs_get hr
        obtain ⟨k0, k1⟩ := hc _ _ hr
        generalize hq : j / 2 = m at *
        rcases (show j = m * 2 ∨ j = m * 2 + 1 by omega) with e | e
        · subst e
          rw [g0] at hu
          rw [← Option.some.inj hu]
          exact k0
        · subst e
          rw [g1] at hu
          rw [← Option.some.inj hu]
          exact k1
      obtain ⟨v', w', h1, h2, h3, _, _⟩ := run_append_own_at (P := Tryz.prog) w B 52 o.type 51 i0 _ 2 16 Tryz.underlying52 hi0 hz0 hz1 hz2 rfl (by omega) v 0 [] hown ad l.length c (rcs l) (by rw [rcs_length]) hc rcs_one (by unfold maxLen; omega) (by omega) hB
      rw [Nat.zero_add, List.nil_append] at h2
      exact ⟨v', w', h1, h2, h3⟩
  obtain ⟨v', w', hr, h2, h3⟩ := key
  obtain ⟨A', c', rfl, hn, hb⟩ := rngs_of_own h2 rfl
  refine wpList_plain hgd fun K hK => ?_
  unfold Oper.wp execOp
  simp only [ho, resolve, invoke, builtin, Sem.run_bind, Sem.run_pure, Result.andThen_ok, List.map_toArray, List.map_cons, List.map_nil, hs, hx, hr]
  exact hK _ _ (h A' c' w' hn h3 hb)
theorem own_noneR (w : World) : (w.alloc (.cells #[] 51)).ownsRow w.heap.size 51 2 (.slice (some ⟨w.heap.size, 0, none⟩) 0 0) 0 [] := World.ownsRow_made w #[] 0 (Nat.le_refl _) (by decide) rfl
theorem copy_rngs (w : World) (A : Option Addr) (c : Nat) (l : List (Int × Int)) (hl : RngI w A l) (hm : l.length ≤ 100000) :
    Calls Tryz.prog 33 #[.slice A l.length c] w fun e w' => ∃ A' c', e = .returned (.slice A' l.length c') ∧ RngI w' A' l ∧ (0 < l.length → ∀ a, A' = some a → w.heap.size ≤ a.block) ∧ Below w.heap.size w w' := by
  have HAL := Lib.hid ((Below.refl w.heap.size w).alloc (Nat.le_refl _) (.cells #[] 51))
  have HL := Lib.hid (hl.below HAL.out)
  have HM := Lib.hid hm
  clear hl hm
  go_enter Tryz.func33, Tryz.ntmps33
  go_wp2_with (at_builtin; refine wpList_append_rngs rfl (.tmp 3) (.tmp 4) rfl w.heap.size (.slice (some ⟨w.heap.size, 0, none⟩) 0 0) rfl (own_noneR w) A c l rfl HL.out HM.out (by simp) ?_; intro A3 c3 w3 hn3 hg3 hb3; have H3 := Lib.hid hn3; have HG3 := Lib.hid hg3; have HB3 := Lib.hid hb3; clear hn3 hg3 hb3)
  have HB := Lib.hid (show Below w.heap.size w w3 from HAL.out.grown HG3.out (by simp) (fun k hk => Nat.le_of_eq (Option.some.inj hk)))
  go_ret
  exact ⟨A3, c3, rfl, H3.out, HB3.out, HB.out⟩
open Go.RowKit
open Ext (Ex Exts exV ExtsF textX)
open Ext (whereX AscTo goodB setX dropX)
theorem catS_cons (a : ByteArray) (l : List ByteArray) : catS (a :: l) = a ++ catS l := by
  apply Ext.bytes_ext
  rw [Ext.app_list, catS_list, catS_list]
  rfl
theorem catS_join (a b : List ByteArray) : catS (a ++ b) = catS a ++ catS b := by
  apply Ext.bytes_ext
  rw [Ext.app_list, catS_list, catS_list, catS_list, flat_app]
theorem join_empty (a : ByteArray) : a ++ (⟨#[]⟩ : ByteArray) = a := by apply Ext.bytes_ext; rw [Ext.app_list]; simp
theorem rd_parts {u : Un} {lba a b : Nat} : u.rd lba (a + b) = u.rd lba a ++ u.rd (lba + a) b := by
  unfold Un.rd
  rw [List.range_add, List.map_append, catS_join, List.map_map]
  congr 2
  refine List.map_congr_left fun i _ => ?_
  show u.blk ((lba + (a + i) : Nat) : Int) = u.blk ((lba + a + i : Nat) : Int)
  rw [Nat.add_assoc]
/-- What was written is read. -/
theorem rd_wr {u : Un} {lba k : Nat} {d : ByteArray} (hd : d.size = k * 512) : (u.wr lba k d).rd lba k = d := by
  have h := cat_secs (L := (List.range k).map (sec d)) (F := d) (a := 0) (u := k) (by omega) (fun i hi => by rw [List.getElem?_map, Nat.zero_add, List.getElem?_range hi]; rfl)
  have e : part ((List.range k).map (sec d)) 0 k = (List.range k).map (sec d) := by
    unfold part
    rw [List.drop_zero, List.take_of_length_le (by simp)]
  rw [e] at h
  unfold Un.rd
  refine Eq.trans ?_ h
  congr 1
  refine List.map_congr_left fun i hi => ?_
  have hi := List.mem_range.1 hi
  unfold Un.blk Un.wr
  show (if _ then _ else _ : Option ByteArray).getD zeroS = _
  rw [if_pos (by omega)]
  show sec d _ = sec d i
  congr 1
  omega
/-- Elsewhere all is as it was. -/
theorem rd_far {u : Un} {lba k lo m : Nat} {d : ByteArray} (h : lo + m ≤ lba ∨ lba + k ≤ lo) : (u.wr lba k d).rd lo m = u.rd lo m := by
  unfold Un.rd
  congr 1
  refine List.map_congr_left fun i hi => ?_
  have hi := List.mem_range.1 hi
  unfold Un.blk Un.wr
  show (if _ then _ else _ : Option ByteArray).getD zeroS = _
  rw [if_neg (by omega)]
theorem zeroS_bytes : zeroS = bytesS 512 0 := by rw [zeroS_is]; unfold bytesS; rfl
theorem rd_new {x : Int × ByteArray} {lo : Nat} : (newU x).rd lo 1 = bytesS 512 0 := by
  unfold Un.rd
  show catS [(newU x).blk _] = _
  rw [catS_cons, catS_nil, join_empty]
  exact zeroS_bytes
theorem used_wr {u : Un} {lba k : Nat} {d : ByteArray} (hl : lba + k ≤ 4096) (h : ∀ b : Int, ¬ ((lba : Int) ≤ b ∧ b < (lba : Int) + k) → u.bl b = none) : (u.wr lba k d).used = k := by
  unfold Un.used
  refine Eq.trans ?_ (count_exact lba k 4096 hl)
  congr 1
  funext b
  unfold Un.wr
  show (if _ then _ else _ : Option ByteArray).isSome = _
  by_cases hb : (lba : Int) ≤ (b : Int) ∧ (b : Int) < (lba : Int) + k
  · rw [if_pos hb, decide_eq_true hb]; rfl
  · rw [if_neg hb, decide_eq_false hb, h _ hb]; rfl
open Go.RowKit
open Ext (Ex Exts exV ExtsF textX)
open Ext (whereX AscTo goodB setX dropX)
theorem uns_one (w : World) (k : Int) (id : ByteArray) : Uns (w.alloc (.cells #[.int .i64 k, .string id] 27)) (some ⟨w.heap.size, 0, none⟩) [(k, id)] := fun _ => by
  refine ⟨w.heap.size, 0, rfl, fun j u hu => ?_⟩
  have hb := Blk.new w 27 #[.int .i64 k, .string id]
  match j, hu with
  | 0, hu =>
    obtain rfl : (k, id) = u := by simpa using hu
    exact ⟨(hb.cell 0).trans rfl, (hb.cell 1).trans rfl⟩
def wkD : ByteArray := bytesS 512 97 ++ bytesS 512 98
theorem wkD_size : wkD.size = 2 * 512 := by unfold wkD; rw [ByteArray.size_append, bytesS_size, bytesS_size]
def wkU : Un := (newU (3, idB 0)).wr 1 2 wkD
theorem wk_rd : wkU.rd 0 3 = bytesS 512 0 ++ bytesS 512 97 ++ bytesS 512 98 := by
  rw [show (3 : Nat) = 1 + 2 from rfl, rd_parts]
  unfold wkU
  rw [rd_far (.inl (by omega)), rd_new, show 0 + 1 = 1 from rfl, rd_wr wkD_size]
  unfold wkD
  rw [ByteArray.append_assoc]
theorem wk_used : wkU.used = 2 := used_wr (by omega) (fun b _ => rfl)
set_option maxRecDepth 100000 in
set_option maxHeartbeats 4000000 in
theorem wakes_any (w : World) (ht : Tab w) : Calls Tryz.prog 24 #[] w fun e w' => e = .returned (.bool true) ∧ Below w.heap.size w w' := by
  have HID : Hid (∀ v, Calls Tryz.prog 12 #[.int .u8 0] v fun e w' => e = .returned (.string (idB 0)) ∧ Below v.heap.size v w') := Lib.hid (fun v => id_any 0 v)
  have HND : Hid (∀ v A, Uns v A [(3, idB 0)] → Calls Tryz.prog 14 #[.slice A 1 1] v fun e w' => e = .returned (.int .i64 582) ∧ Below v.heap.size v w') := Lib.hid (fun v A hv => needs_any A 1 [(3, idB 0)] v hv (fun u hu => by rw [List.mem_singleton.1 hu]; exact ⟨by decide, by decide⟩) (by decide))
  have HNW : Hid (∀ v, Calls Tryz.prog 13 #[.int .i64 582] v (NewOk v 582)) := Lib.hid (fun v => new_ok v 582 (by omega) (by omega))
  have HFM : Hid (∀ v F p A, Below w.heap.size w v → Dv v F p 582 (St.new 582) → (∀ k, F k → w.heap.size ≤ k) → Uns v A [(3, idB 0)] → Calls Tryz.prog 15 #[.pointer (some ⟨p, 0, none⟩), .slice A 1 1] v fun e w' => ∃ s q, e = .returned (.tuple #[.pointer (some ⟨s, 0, none⟩), .int .i64 0]) ∧ Us w w' s p q 582 [newU (3, idB 0)] [newU (3, idB 0)] 1) := Lib.hid (fun v F p A hb hv hF hu => format_us hb hv hF ht A 1 [(3, idB 0)] hu (fun u hu => by rw [List.mem_singleton.1 hu]; exact ⟨by decide, by decide, idB_size 0⟩) (by decide) (by decide) (by rw [need_sum]; decide) (by decide))
  have HBA : Hid (∀ v, Calls Tryz.prog 25 #[.int .u8 97] v fun e w' => e = .returned (.string (bytesS 512 97)) ∧ Below v.heap.size v w') := Lib.hid (fun v => block_any 97 v)
  have HBB : Hid (∀ v, Calls Tryz.prog 25 #[.int .u8 98] v fun e w' => e = .returned (.string (bytesS 512 98)) ∧ Below v.heap.size v w') := Lib.hid (fun v => block_any 98 v)
  have HZ : Hid (∀ v, Calls Tryz.prog 34 #[.int .i64 512] v fun e w' => e = .returned (.string (bytesS 512 0)) ∧ Below v.heap.size v w') := Lib.hid (fun v => zeros_any 512 (by omega) v)
  have HWR : Hid (∀ v s p q, Us w v s p q 582 [newU (3, idB 0)] [newU (3, idB 0)] 1 → Calls Tryz.prog 18 #[.pointer (some ⟨s, 0, none⟩), .int .i64 0, .int .i64 1, .string (bytesS 512 97 ++ bytesS 512 98)] v fun e w' => e = .returned (.int .i64 0) ∧ ∃ Vp, Us w w' s p q 582 [wkU] Vp 2) := Lib.hid (fun v s p q h => (write_us (lun := 0) (lba := 1) (k := 2) h (by omega) rfl (by decide) (by omega) wkD wkD_size).mono fun e w' ⟨he, Vp, _, hu⟩ => ⟨he, Vp, hu⟩)
  have HFL := Lib.hid (fun v s p q Vp (h : Us w v s p q 582 [wkU] Vp 2) => flush_us h (by omega))
  have HCR : Hid (∀ v s p q, Us w v s p q 582 [wkU] [wkU] 3 → Calls Tryz.prog 20 #[.pointer (some ⟨p, 0, none⟩), .slice none 0 0] v fun e w' => e = .returned (.tuple #[]) ∧ Dn w w' p 582 [wkU] [wkU] 3) := Lib.hid (fun v s p q h => crash_us h (by omega) none 0 [] (fun h => absurd h (Nat.lt_irrefl _)) (fun h => absurd h (Nat.lt_irrefl _)) (Nat.zero_le _))
  have HOP : Hid (∀ v p, Dn w v p 582 [wkU] [wkU] 3 → Calls Tryz.prog 21 #[.pointer (some ⟨p, 0, none⟩)] v fun e w' => ∃ s q, e = .returned (.tuple #[.pointer (some ⟨s, 0, none⟩), .int .i64 0]) ∧ Us w w' s p q 582 [wkU] [wkU] 4) := Lib.hid (fun v p h => (open_us h (by omega) ht).mono fun e w' ⟨s, q, V', he, hv, hu⟩ => ⟨s, q, he, by rcases hv with rfl | rfl <;> exact hu⟩)
  have HRD : Hid (∀ v s p q, Us w v s p q 582 [wkU] [wkU] 4 → Calls Tryz.prog 22 #[.pointer (some ⟨s, 0, none⟩), .int .i64 0, .int .i64 0, .int .i64 3] v fun e w' => e = .returned (.tuple #[.string (bytesS 512 0 ++ bytesS 512 97 ++ bytesS 512 98), .int .i64 0]) ∧ Us w w' s p q 582 [wkU] [wkU] 4) := Lib.hid (fun v s p q h => by
    have := read_us (lun := 0) (lba := 0) (k := 3) h (u := wkU) rfl (by decide)
    rw [wk_rd] at this
    exact this)
  have HUS : Hid (∀ v s p q, Us w v s p q 582 [wkU] [wkU] 4 → Calls Tryz.prog 23 #[.pointer (some ⟨s, 0, none⟩), .int .i64 0] v fun e w' => e = .returned (.int .i64 2) ∧ Us w w' s p q 582 [wkU] [wkU] 4) := Lib.hid (fun v s p q h => by
    have := used_us (lun := 0) h (u := wkU) rfl
    rw [wk_used] at this
    exact this)
  have HUN : Hid (∀ v s p q, Us w v s p q 582 [wkU] [wkU] 4 → Calls Tryz.prog 28 #[.pointer (some ⟨s, 0, none⟩)] v fun e w' => ∃ g, e = .returned (.slice (some ⟨g, 0, none⟩) 1 1) ∧ Us w w' s p q 582 [wkU] [wkU] 4) := Lib.hid (fun v s p q h => (units_us h).mono fun e w' ⟨g, he, _, hu, _⟩ => ⟨g, he, hu⟩)
  have HUO := Lib.hid (fun (v : World) => uns_one v 3 (idB 0))
  have hca : (bytesS 512 97).size + (bytesS 512 98).size ≤ 9223372036854775807 := by rw [bytesS_size, bytesS_size]; decide
  have hcb : (bytesS 512 0).size + (bytesS 512 97).size ≤ 9223372036854775807 := by rw [bytesS_size, bytesS_size]; decide
  have hcc : (bytesS 512 0 ++ bytesS 512 97).size + (bytesS 512 98).size ≤ 9223372036854775807 := by rw [ByteArray.size_append, bytesS_size, bytesS_size, bytesS_size]; decide
  generalize bytesS 512 97 = ba at *
  generalize bytesS 512 98 = bb at *
  generalize bytesS 512 0 = bz at *
  generalize idB 0 = ib at *
  clear ht
  go_enter Tryz.func24, Tryz.ntmps24
  go_wp2_with (fail)
  refine (HID.out _).mono ?_; rintro e w1 ⟨rfl, hb1⟩
  have HB1 := Lib.hid hb1
  have HU := Lib.hid (HUO.out w1)
  have HAL := Lib.hid ((Below.refl w1.heap.size w1).alloc (Nat.le_refl _) (.cells #[.int .i64 3, .string ib] 27))
  clear hb1 HID HUO
  go_wp2_with (fail)
  generalize (w1.alloc (.cells #[.int .i64 3, .string ib] 27)) = w0 at *
  have HB0 := Lib.hid (HB1.out.trans (HAL.out.mono HB1.out.size))
  refine (HND.out _ _ HU.out).mono ?_; rintro e w2 ⟨rfl, hb2⟩
  have HB2 := Lib.hid (HB0.out.trans (hb2.mono HB0.out.size))
  have HU2 := Lib.hid (HU.out.below hb2)
  clear hb2 HND HU
  go_wp2_with (fail)
  refine (HNW.out _).mono ?_; rintro e w3 ⟨p, F, rfl, hdv, hb3, hF⟩
  have HDV := Lib.hid hdv
  have HB3 := Lib.hid (HB2.out.trans (hb3.mono HB2.out.size))
  have HU3 := Lib.hid (HU2.out.below hb3)
  have HF := Lib.hid (fun k (hk : F k) => Nat.le_trans HB2.out.size (hF k hk))
  clear hdv hb3 hF HNW
  go_wp2_with (fail)
  refine (HFM.out _ F p _ HB3.out HDV.out HF.out HU3.out).mono ?_; rintro e w4 ⟨s, q, rfl, hus⟩
  have HS := Lib.hid hus
  clear hus HFM HDV HU3 HF HU2 HB0 HB1 HB2 HB3
  go_wp2_with (fail)
  refine (HBA.out _).mono ?_; rintro e w5 ⟨rfl, hb5⟩
  have HS5 := Lib.hid (HS.out.more hb5)
  clear hb5 HS
  go_wp2_with (fail)
  refine (HBB.out _).mono ?_; rintro e w6 ⟨rfl, hb6⟩
  have HS6 := Lib.hid (HS5.out.more hb6)
  clear hb6 HS5
  go_wp2_with (fail)
  refine (HWR.out _ s p q HS6.out).mono ?_; rintro e w7 ⟨rfl, Vp, hus7⟩
  have HS7 := Lib.hid hus7
  clear hus7 HS6 HWR
  go_wp2_with (fail)
  refine (HFL.out _ s p q Vp HS7.out).mono ?_; rintro e w8 ⟨rfl, hus8⟩
  have HS8 := Lib.hid hus8
  clear hus8 HS7 HFL
  go_wp2_with (fail)
  refine (HCR.out _ s p q HS8.out).mono ?_; rintro e w9 ⟨rfl, hdn⟩
  have HDN := Lib.hid hdn
  clear hdn HS8 HCR
  go_wp2_with (fail)
  refine (HOP.out _ p HDN.out).mono ?_; rintro e w10 ⟨s2, q2, rfl, hus⟩
  have HS := Lib.hid hus
  clear hus HDN HOP
  go_wp2_with (fail)
  refine (HRD.out _ s2 p q2 HS.out).mono ?_; rintro e w11 ⟨rfl, hus11⟩
  have HS11 := Lib.hid hus11
  clear hus11 HS HRD
  go_wp2_with (fail)
  refine (HZ.out _).mono ?_; rintro e w12 ⟨rfl, hb12⟩
  have HS12 := Lib.hid (HS11.out.more hb12)
  clear hb12 HS11
  go_wp2_with (fail)
  refine (HBA.out _).mono ?_; rintro e w13 ⟨rfl, hb13⟩
  have HS13 := Lib.hid (HS12.out.more hb13)
  clear hb13 HS12
  go_wp2_with (fail)
  refine (HBB.out _).mono ?_; rintro e w14 ⟨rfl, hb14⟩
  have HS14 := Lib.hid (HS13.out.more hb14)
  clear hb14 HS13
  go_wp2_with (fail)
  refine (HUS.out _ s2 p q2 HS14.out).mono ?_; rintro e w15 ⟨rfl, hus15⟩
  have HS15 := Lib.hid hus15
  clear hus15 HS14 HUS
  go_wp2_with (fail)
  refine (HUN.out _ s2 p q2 HS15.out).mono ?_; rintro e w16 ⟨g, rfl, hus16⟩
  have HS16 := Lib.hid hus16
  clear hus16 HS15 HUN
  go_wp2_with (fail)
  go_ret
  exact ⟨rfl, HS16.out.below⟩
end Go.Proofs.YtglfjlbhjaemgaaGreatDoor
