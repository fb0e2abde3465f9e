/- store: what is done with a store of one's own. store's statements: what is read of what was written. store's statements: wakes. store: a store that nobody made. StoreNone: a store that nobody made has no units; there is none on a device of zeros. -/
import Derived.Test.YtglfjlbhjaemgaaGreatDoorPk45
import Derived.Test.YtglfjlbhjaemgaaGreatDoorPk44
import Derived.Test.YtglfjlbhjaemgaaGreatDoorPk35
namespace Go.Proofs.YtglfjlbhjaemgaaGreatDoor
open Go.RowKit
open Ext (Ex Exts exV ExtsF textX)
open Ext (whereX AscTo goodB setX dropX)
theorem write_us {w0 w : World} {s p q n : Nat} {V Vp : List Un} {m : Nat} (h : Us w0 w s p q n V Vp m) (hm : m ≤ 500) {lun lba k : Nat} {u : Un} (hu : V[lun]? = some u) (hk : (lba : Int) + k ≤ u.n) (hk64 : k ≤ 64) (d : ByteArray) (hd : d.size = k * 512) :
    Calls Tryz.prog 18 #[.pointer (some ⟨s, 0, none⟩), .int .i64 (lun : Int), .int .i64 (lba : Int), .string d] w fun e w' => e = .returned (.int .i64 0) ∧ ∃ Vp', (Vp' = V ∨ Vp' = V.set lun (u.wr lba k d)) ∧ Us w0 w' s p q n (V.set lun (u.wr lba k d)) Vp' (m + 1) := by
  obtain ⟨S, x, j, st, hh, hs, hi, h1, h2, h3⟩ := h.has
  obtain ⟨t, ht, rfl⟩ := hi.un hu
  refine (swrite_inv w hh hi ht hk hk64 d hd (by omega) (by omega) (by omega)).mono ?_
  rintro e w' ⟨rfl, x', j', st', Vp', ho, hi', hv, k1, k2, k3⟩
  exact ⟨rfl, Vp', hv, Us.of h.below hs ho hi' (by omega) (by omega) (by omega)⟩
theorem Has.lt {w : World} {S : Nat → Prop} {s p q n : Nat} {x : St} {j : Jn} {st : Sto} (h : Has w S s p q n x j st) : ∀ k, S k → k < w.heap.size := by
  rcases h with h | ⟨h, _⟩
  · exact h.lt
  · exact h.lt
theorem flush_us {w0 w : World} {s p q n : Nat} {V Vp : List Un} {m : Nat} (h : Us w0 w s p q n V Vp m) (hm : m ≤ 500) :
    Calls Tryz.prog 19 #[.pointer (some ⟨s, 0, none⟩)] w fun e w' => e = .returned (.int .i64 0) ∧ Us w0 w' s p q n V V (m + 1) := by
  obtain ⟨S, x, j, st, hh, hs, hi, h1, h2, h3⟩ := h.has
  obtain ⟨f1, f2⟩ := hi.flush
  have hf := flsh_ops x
  rcases hh with hsd | ⟨hsu, l0, xs, r1, r2, r3, r4, r5⟩
  · refine (sflush_ok w hsd hi.bad hi.down hi.tells.fit (by omega) f1).mono ?_
    rintro e w' ⟨rfl, ho⟩
    exact ⟨rfl, Us.of h.below hs ho f2 (by omega) (by omega) (by show st.ch ≤ _; omega)⟩
  · refine (sflush_su w hsu hi.down hi.tells.fit (by omega) f1).mono ?_
    rintro e w' ⟨rfl, S', hsu', ho, hg⟩
    subst r5
    exact ⟨rfl, ⟨S', x.flsh.1, j, firstS (playL l0 xs), .inr ⟨hsu', l0, xs, r1, r2, r3, r4, rfl⟩, grew_lo hg hs h.below.size, f2, by omega, by omega, Nat.zero_le _⟩, below_go h.below ho hs⟩
/-- What stands at a block; what is read of some. -/
def Un.blk (u : Un) (b : Int) : ByteArray := (u.bl b).getD zeroS
def Un.rd (u : Un) (lba k : Nat) : ByteArray := catS ((List.range k).map fun i => u.blk ((lba + i : Nat) : Int))
theorem read_us {w0 w : World} {s p q n : Nat} {V Vp : List Un} {m : Nat} (h : Us w0 w s p q n V Vp m) {lun lba k : Nat} {u : Un} (hu : V[lun]? = some u) (hk : (lba : Int) + k ≤ u.n) :
    Calls Tryz.prog 22 #[.pointer (some ⟨s, 0, none⟩), .int .i64 (lun : Int), .int .i64 (lba : Int), .int .i64 (k : Int)] w fun e w' => e = .returned (.tuple #[.string (u.rd lba k), .int .i64 0]) ∧ Us w0 w' s p q n V Vp m := by
  obtain ⟨S, x, j, st, hh, hs, hi, h1, h2, h3⟩ := h.has
  obtain ⟨t, ht, rfl⟩ := hi.un hu
  have hb := hi.big
  refine (sread_ok w hh hi.bad hi.down lun t ht (hi.tells.oks t (List.mem_of_getElem? ht)) lba k hk (fun b a hba => by
    have := hi.tells.apart.range lun t ht b a hba
    omega)).mono ?_
  rintro e w' ⟨rfl, ho⟩
  exact ⟨rfl, Us.of h.below hs ho hi h1 h2 h3⟩
def Un.used (u : Un) : Nat := (List.range 4096).countP fun b : Nat => (u.bl (b : Int)).isSome
theorem count_le_split (p q : Nat → Bool) (m : Nat) (h : ∀ i, i < m → p i = true → q i = true → False) : (List.range m).countP (fun i => p i || q i) = (List.range m).countP p + (List.range m).countP q := by
  induction m with
  | zero => simp
  | succ m ih =>
    have ih := ih (fun i hi => h i (by omega))
    have hm := h m (by omega)
    rw [countP_next, countP_next, countP_next, ih]
    cases hp : p m <;> cases hq : q m
    · simp
    · simp; omega
    · simp; omega
    · exact absurd hq (fun hq => hm hp hq)
theorem count_exact (lo b : Nat) : ∀ m : Nat, lo + b ≤ m → (List.range m).countP (fun i : Nat => decide ((lo : Int) ≤ (i : Int) ∧ (i : Int) < (lo : Int) + b)) = b := by
  have key : ∀ m : Nat, (List.range m).countP (fun i : Nat => decide ((lo : Int) ≤ (i : Int) ∧ (i : Int) < (lo : Int) + b)) = min m (lo + b) - lo := by
    intro m
    induction m with
    | zero => simp
    | succ m ih =>
      rw [countP_next, ih]
      by_cases h : (lo : Int) ≤ (m : Int) ∧ (m : Int) < (lo : Int) + b
      · rw [decide_eq_true h]; simp only [if_true]; omega
      · rw [decide_eq_false h]; simp only [Bool.false_eq_true, if_false]; omega
  intro m hm
  rw [key m]
  omega
theorem used_count (m : Nat) : ∀ {l : List Ex} {s e : Int}, AscTo s e l → 0 ≤ s → e ≤ (m : Int) → (((List.range m).countP (fun b : Nat => (whereX l (b : Int)).isSome) : Nat) : Int) = Ext.sumB l
  | [], s, e, h, _, _ => by
    have e1 : (fun b : Nat => (whereX [] (b : Int)).isSome) = fun _ => false := rfl
    rw [e1, List.countP_eq_zero.2 (fun _ _ => by simp)]
    rfl
  | x :: t, s, e, h, hs, he => by
    obtain ⟨h1, h2, h3⟩ := h
    have hx := h2
    unfold Ex.Fits at hx
    have ih := used_count m h3 (by omega) he
    have hle := h3.le
    have e1 : (fun b : Nat => (whereX (x :: t) (b : Int)).isSome) = fun b : Nat => decide (((x.l.toNat : Nat) : Int) ≤ (b : Int) ∧ (b : Int) < ((x.l.toNat : Nat) : Int) + ((x.b.toNat : Nat) : Int)) || (whereX t (b : Int)).isSome := by
      funext b
      rw [Ext.where_cons]
      by_cases hb : x.l ≤ (b : Int) ∧ (b : Int) < x.l + x.b
      · rw [if_pos hb, decide_eq_true (by omega)]; rfl
      · rw [if_neg hb, decide_eq_false (by omega)]; rfl
    rw [e1, count_le_split (fun b : Nat => decide (((x.l.toNat : Nat) : Int) ≤ (b : Int) ∧ (b : Int) < ((x.l.toNat : Nat) : Int) + ((x.b.toNat : Nat) : Int))) (fun b : Nat => (whereX t (b : Int)).isSome) m (fun i _ hp hq => by
      have hp := of_decide_eq_true hp
      have hn := h3.none_below (i : Int) (by omega)
      simp only [hn] at hq
      cases hq), count_exact x.l.toNat x.b.toNat m (by omega)]
    show _ = x.b + Ext.sumB t
    rw [← ih]
    omega
theorem used_is {L : List ByteArray} {t : Tb} (h : goodB t.ex = true) : ((unOf L t).used : Int) = Ext.sumB t.ex := by
  rw [← used_count 4096 (Ext.good_asc h) (Int.le_refl _) (by omega)]
  unfold Un.used unOf valE
  have e : (fun b : Nat => ((whereX t.ex (b : Int)).map fun a => L.getD a.toNat ⟨#[]⟩).isSome) = fun b : Nat => (whereX t.ex (b : Int)).isSome := by
    funext b
    cases whereX t.ex (b : Int) <;> rfl
  show (((List.range 4096).countP (fun b : Nat => ((whereX t.ex (b : Int)).map fun a => L.getD a.toNat ⟨#[]⟩).isSome) : Nat) : Int) = _
  rw [e]
theorem used_us {w0 w : World} {s p q n : Nat} {V Vp : List Un} {m : Nat} (h : Us w0 w s p q n V Vp m) {lun : Nat} {u : Un} (hu : V[lun]? = some u) :
    Calls Tryz.prog 23 #[.pointer (some ⟨s, 0, none⟩), .int .i64 (lun : Int)] w fun e w' => e = .returned (.int .i64 (u.used : Int)) ∧ Us w0 w' s p q n V Vp m := by
  obtain ⟨S, x, j, st, hh, hs, hi, h1, h2, h3⟩ := h.has
  obtain ⟨t, ht, rfl⟩ := hi.un hu
  have htk := hi.tells.oks t (List.mem_of_getElem? ht)
  refine (used_ok w hh lun t ht htk).mono ?_
  rintro e w' ⟨rfl, ho⟩
  refine ⟨?_, Us.of h.below hs ho hi h1 h2 h3⟩
  rw [used_is htk.good]
  show Ending.returned (.int .i64 (Ext.usedX t.ex)) = _
  unfold Ext.usedX
  rw [if_pos htk.good]
theorem units_us {w0 w : World} {s p q n : Nat} {V Vp : List Un} {m : Nat} (h : Us w0 w s p q n V Vp m) :
    Calls Tryz.prog 28 #[.pointer (some ⟨s, 0, none⟩)] w fun e w' => ∃ g, e = .returned (.slice (some ⟨g, 0, none⟩) V.length V.length) ∧ Uns w' (some ⟨g, 0, none⟩) (V.map fun u => (u.n, u.id)) ∧ Us w0 w' s p q n V Vp m ∧ w.heap.size ≤ g := by
  obtain ⟨S, x, j, st, hh, hs, hi, h1, h2, h3⟩ := h.has
  refine (units_any w hh hi.tells.few (fun t ht => by have := (hi.tells.oks t ht).id; omega)).mono ?_
  rintro e w' ⟨g, rfl, hu, ho, hg⟩
  have e1 : V.length = st.l.length := by rw [hi.view, List.length_map]
  have e2 : (V.map fun u => (u.n, u.id)) = st.l.map fun t => (t.n, t.id) := by rw [hi.view, List.map_map]; rfl
  rw [e1, e2]
  exact ⟨g, rfl, hu, Us.of h.below hs ho hi h1 h2 h3, hg⟩
theorem open_us {w0 w : World} {p n : Nat} {V Vp : List Un} {m : Nat} (h : Dn w0 w p n V Vp m) (hm : m ≤ 500) (ht : Tab w0) :
    Calls Tryz.prog 21 #[.pointer (some ⟨p, 0, none⟩)] w fun e w' => ∃ s q V', e = .returned (.tuple #[.pointer (some ⟨s, 0, none⟩), .int .i64 0]) ∧ (V' = V ∨ V' = Vp) ∧ Us w0 w' s p q n V' V' (m + 1) := by
  obtain ⟨F, x, a, la, hv, hF, hk, htl, hV, hd, ha, h1, h2⟩ := h.has
  obtain ⟨f1, f2, f3⟩ := free_flsh ha hd
  obtain ⟨k1, k2, _⟩ := flsh_yes f1
  have hf := flsh_ops x
  have hb : 576 ≤ n := by
    have h2 := htl.need
    have h3 := (sumN_small (l := la) (fun t ht => ⟨(htl.oks t ht).n1, (htl.oks t ht).n2⟩)).1
    unfold needT at h2
    omega
  refine (sopen_ok w hv (ht.below h.below) (lo_far ht hF) hd hk htl (by omega) f1 hb).mono ?_
  rintro e w' ⟨s, q, S, rfl, hsd, ho, hg⟩
  have hinv := inv_first htl k2 (by rw [k1]; exact hk) f3 f2
  rw [flsh_seen] at hinv
  exact ⟨s, q, la.map (unOf x.seen), rfl, hV, ⟨S, x.flsh.1, a, firstS la, .inl hsd, grew_lo hg hF h.below.size, hinv, by omega, by omega, Nat.zero_le _⟩, below_go h.below ho hF⟩
open Go.RowKit
open Ext (Ex Exts exV ExtsF textX)
open Ext (whereX AscTo goodB setX dropX)
theorem catS_cons (a : ByteArray) (l : List ByteArray) : catS (a :: l) = a ++ catS l := by
  apply Ext.bytes_ext
  rw [Ext.app_list, catS_list, catS_list]
  rfl
theorem catS_join (a b : List ByteArray) : catS (a ++ b) = catS a ++ catS b := by
  apply Ext.bytes_ext
  rw [Ext.app_list, catS_list, catS_list, catS_list, flat_app]
theorem join_empty (a : ByteArray) : a ++ (⟨#[]⟩ : ByteArray) = a := by apply Ext.bytes_ext; rw [Ext.app_list]; simp
theorem rd_parts {u : Un} {lba a b : Nat} : u.rd lba (a + b) = u.rd lba a ++ u.rd (lba + a) b := by
  unfold Un.rd
  rw [List.range_add, List.map_append, catS_join, List.map_map]
  congr 2
  refine List.map_congr_left fun i _ => ?_
  show u.blk ((lba + (a + i) : Nat) : Int) = u.blk ((lba + a + i : Nat) : Int)
  rw [Nat.add_assoc]
/-- What was written is read. -/
theorem rd_wr {u : Un} {lba k : Nat} {d : ByteArray} (hd : d.size = k * 512) : (u.wr lba k d).rd lba k = d := by
  have h := cat_secs (L := (List.range k).map (sec d)) (F := d) (a := 0) (u := k) (by omega) (fun i hi => by rw [List.getElem?_map, Nat.zero_add, List.getElem?_range hi]; rfl)
  have e : part ((List.range k).map (sec d)) 0 k = (List.range k).map (sec d) := by
    unfold part
    rw [List.drop_zero, List.take_of_length_le (by simp)]
  rw [e] at h
  unfold Un.rd
  refine Eq.trans ?_ h
  congr 1
  refine List.map_congr_left fun i hi => ?_
  have hi := List.mem_range.1 hi
  unfold Un.blk Un.wr
  show (if _ then _ else _ : Option ByteArray).getD zeroS = _
  rw [if_pos (by omega)]
  show sec d _ = sec d i
  congr 1
  omega
/-- Elsewhere all is as it was. -/
theorem rd_far {u : Un} {lba k lo m : Nat} {d : ByteArray} (h : lo + m ≤ lba ∨ lba + k ≤ lo) : (u.wr lba k d).rd lo m = u.rd lo m := by
  unfold Un.rd
  congr 1
  refine List.map_congr_left fun i hi => ?_
  have hi := List.mem_range.1 hi
  unfold Un.blk Un.wr
  show (if _ then _ else _ : Option ByteArray).getD zeroS = _
  rw [if_neg (by omega)]
theorem zeroS_bytes : zeroS = bytesS 512 0 := by rw [zeroS_is]; unfold bytesS; rfl
theorem rd_new {x : Int × ByteArray} {lo : Nat} : (newU x).rd lo 1 = bytesS 512 0 := by
  unfold Un.rd
  show catS [(newU x).blk _] = _
  rw [catS_cons, catS_nil, join_empty]
  exact zeroS_bytes
theorem used_wr {u : Un} {lba k : Nat} {d : ByteArray} (hl : lba + k ≤ 4096) (h : ∀ b : Int, ¬ ((lba : Int) ≤ b ∧ b < (lba : Int) + k) → u.bl b = none) : (u.wr lba k d).used = k := by
  unfold Un.used
  refine Eq.trans ?_ (count_exact lba k 4096 hl)
  congr 1
  funext b
  unfold Un.wr
  show (if _ then _ else _ : Option ByteArray).isSome = _
  by_cases hb : (lba : Int) ≤ (b : Int) ∧ (b : Int) < (lba : Int) + k
  · rw [if_pos hb, decide_eq_true hb]; rfl
  · rw [if_neg hb, decide_eq_false hb, h _ hb]; rfl
open Go.RowKit
open Ext (Ex Exts exV ExtsF textX)
open Ext (whereX AscTo goodB setX dropX)
theorem uns_one (w : World) (k : Int) (id : ByteArray) : Uns (w.alloc (.cells #[.int .i64 k, .string id] 27)) (some ⟨w.heap.size, 0, none⟩) [(k, id)] := fun _ => by
  refine ⟨w.heap.size, 0, rfl, fun j u hu => ?_⟩
  have hb := Blk.new w 27 #[.int .i64 k, .string id]
  match j, hu with
  | 0, hu =>
    obtain rfl : (k, id) = u := by simpa using hu
    exact ⟨(hb.cell 0).trans rfl, (hb.cell 1).trans rfl⟩
def wkD : ByteArray := bytesS 512 97 ++ bytesS 512 98
theorem wkD_size : wkD.size = 2 * 512 := by unfold wkD; rw [ByteArray.size_append, bytesS_size, bytesS_size]
def wkU : Un := (newU (3, idB 0)).wr 1 2 wkD
theorem wk_rd : wkU.rd 0 3 = bytesS 512 0 ++ bytesS 512 97 ++ bytesS 512 98 := by
  rw [show (3 : Nat) = 1 + 2 from rfl, rd_parts]
  unfold wkU
  rw [rd_far (.inl (by omega)), rd_new, show 0 + 1 = 1 from rfl, rd_wr wkD_size]
  unfold wkD
  rw [ByteArray.append_assoc]
theorem wk_used : wkU.used = 2 := used_wr (by omega) (fun b _ => rfl)
set_option maxRecDepth 100000 in
set_option maxHeartbeats 4000000 in
theorem wakes_any (w : World) (ht : Tab w) : Calls Tryz.prog 24 #[] w fun e w' => e = .returned (.bool true) ∧ Below w.heap.size w w' := by
  have HID : Hid (∀ v, Calls Tryz.prog 12 #[.int .u8 0] v fun e w' => e = .returned (.string (idB 0)) ∧ Below v.heap.size v w') := Lib.hid (fun v => id_any 0 v)
  have HND : Hid (∀ v A, Uns v A [(3, idB 0)] → Calls Tryz.prog 14 #[.slice A 1 1] v fun e w' => e = .returned (.int .i64 582) ∧ Below v.heap.size v w') := Lib.hid (fun v A hv => needs_any A 1 [(3, idB 0)] v hv (fun u hu => by rw [List.mem_singleton.1 hu]; exact ⟨by decide, by decide⟩) (by decide))
  have HNW : Hid (∀ v, Calls Tryz.prog 13 #[.int .i64 582] v (NewOk v 582)) := Lib.hid (fun v => new_ok v 582 (by omega) (by omega))
  have HFM : Hid (∀ v F p A, Below w.heap.size w v → Dv v F p 582 (St.new 582) → (∀ k, F k → w.heap.size ≤ k) → Uns v A [(3, idB 0)] → Calls Tryz.prog 15 #[.pointer (some ⟨p, 0, none⟩), .slice A 1 1] v fun e w' => ∃ s q, e = .returned (.tuple #[.pointer (some ⟨s, 0, none⟩), .int .i64 0]) ∧ Us w w' s p q 582 [newU (3, idB 0)] [newU (3, idB 0)] 1) := Lib.hid (fun v F p A hb hv hF hu => format_us hb hv hF ht A 1 [(3, idB 0)] hu (fun u hu => by rw [List.mem_singleton.1 hu]; exact ⟨by decide, by decide, idB_size 0⟩) (by decide) (by decide) (by rw [need_sum]; decide) (by decide))
  have HBA : Hid (∀ v, Calls Tryz.prog 25 #[.int .u8 97] v fun e w' => e = .returned (.string (bytesS 512 97)) ∧ Below v.heap.size v w') := Lib.hid (fun v => block_any 97 v)
  have HBB : Hid (∀ v, Calls Tryz.prog 25 #[.int .u8 98] v fun e w' => e = .returned (.string (bytesS 512 98)) ∧ Below v.heap.size v w') := Lib.hid (fun v => block_any 98 v)
  have HZ : Hid (∀ v, Calls Tryz.prog 34 #[.int .i64 512] v fun e w' => e = .returned (.string (bytesS 512 0)) ∧ Below v.heap.size v w') := Lib.hid (fun v => zeros_any 512 (by omega) v)
  have HWR : Hid (∀ v s p q, Us w v s p q 582 [newU (3, idB 0)] [newU (3, idB 0)] 1 → Calls Tryz.prog 18 #[.pointer (some ⟨s, 0, none⟩), .int .i64 0, .int .i64 1, .string (bytesS 512 97 ++ bytesS 512 98)] v fun e w' => e = .returned (.int .i64 0) ∧ ∃ Vp, Us w w' s p q 582 [wkU] Vp 2) := Lib.hid (fun v s p q h => (write_us (lun := 0) (lba := 1) (k := 2) h (by omega) rfl (by decide) (by omega) wkD wkD_size).mono fun e w' ⟨he, Vp, _, hu⟩ => ⟨he, Vp, hu⟩)
  have HFL := Lib.hid (fun v s p q Vp (h : Us w v s p q 582 [wkU] Vp 2) => flush_us h (by omega))
  have HCR : Hid (∀ v s p q, Us w v s p q 582 [wkU] [wkU] 3 → Calls Tryz.prog 20 #[.pointer (some ⟨p, 0, none⟩), .slice none 0 0] v fun e w' => e = .returned (.tuple #[]) ∧ Dn w w' p 582 [wkU] [wkU] 3) := Lib.hid (fun v s p q h => crash_us h (by omega) none 0 [] (fun h => absurd h (Nat.lt_irrefl _)) (fun h => absurd h (Nat.lt_irrefl _)) (Nat.zero_le _))
  have HOP : Hid (∀ v p, Dn w v p 582 [wkU] [wkU] 3 → Calls Tryz.prog 21 #[.pointer (some ⟨p, 0, none⟩)] v fun e w' => ∃ s q, e = .returned (.tuple #[.pointer (some ⟨s, 0, none⟩), .int .i64 0]) ∧ Us w w' s p q 582 [wkU] [wkU] 4) := Lib.hid (fun v p h => (open_us h (by omega) ht).mono fun e w' ⟨s, q, V', he, hv, hu⟩ => ⟨s, q, he, by rcases hv with rfl | rfl <;> exact hu⟩)
  have HRD : Hid (∀ v s p q, Us w v s p q 582 [wkU] [wkU] 4 → Calls Tryz.prog 22 #[.pointer (some ⟨s, 0, none⟩), .int .i64 0, .int .i64 0, .int .i64 3] v fun e w' => e = .returned (.tuple #[.string (bytesS 512 0 ++ bytesS 512 97 ++ bytesS 512 98), .int .i64 0]) ∧ Us w w' s p q 582 [wkU] [wkU] 4) := Lib.hid (fun v s p q h => by
    have := read_us (lun := 0) (lba := 0) (k := 3) h (u := wkU) rfl (by decide)
    rw [wk_rd] at this
    exact this)
  have HUS : Hid (∀ v s p q, Us w v s p q 582 [wkU] [wkU] 4 → Calls Tryz.prog 23 #[.pointer (some ⟨s, 0, none⟩), .int .i64 0] v fun e w' => e = .returned (.int .i64 2) ∧ Us w w' s p q 582 [wkU] [wkU] 4) := Lib.hid (fun v s p q h => by
    have := used_us (lun := 0) h (u := wkU) rfl
    rw [wk_used] at this
    exact this)
  have HUN : Hid (∀ v s p q, Us w v s p q 582 [wkU] [wkU] 4 → Calls Tryz.prog 28 #[.pointer (some ⟨s, 0, none⟩)] v fun e w' => ∃ g, e = .returned (.slice (some ⟨g, 0, none⟩) 1 1) ∧ Us w w' s p q 582 [wkU] [wkU] 4) := Lib.hid (fun v s p q h => (units_us h).mono fun e w' ⟨g, he, _, hu, _⟩ => ⟨g, he, hu⟩)
  have HUO := Lib.hid (fun (v : World) => uns_one v 3 (idB 0))
  have hca : (bytesS 512 97).size + (bytesS 512 98).size ≤ 9223372036854775807 := by rw [bytesS_size, bytesS_size]; decide
  have hcb : (bytesS 512 0).size + (bytesS 512 97).size ≤ 9223372036854775807 := by rw [bytesS_size, bytesS_size]; decide
  have hcc : (bytesS 512 0 ++ bytesS 512 97).size + (bytesS 512 98).size ≤ 9223372036854775807 := by rw [ByteArray.size_append, bytesS_size, bytesS_size, bytesS_size]; decide
  generalize bytesS 512 97 = ba at *
  generalize bytesS 512 98 = bb at *
  generalize bytesS 512 0 = bz at *
  generalize idB 0 = ib at *
  clear ht
  go_enter Tryz.func24, Tryz.ntmps24
  go_wp2_with (fail)
  refine (HID.out _).mono ?_; rintro e w1 ⟨rfl, hb1⟩
  have HB1 := Lib.hid hb1
  have HU := Lib.hid (HUO.out w1)
  have HAL := Lib.hid ((Below.refl w1.heap.size w1).alloc (Nat.le_refl _) (.cells #[.int .i64 3, .string ib] 27))
  clear hb1 HID HUO
  go_wp2_with (fail)
  generalize (w1.alloc (.cells #[.int .i64 3, .string ib] 27)) = w0 at *
  have HB0 := Lib.hid (HB1.out.trans (HAL.out.mono HB1.out.size))
  refine (HND.out _ _ HU.out).mono ?_; rintro e w2 ⟨rfl, hb2⟩
  have HB2 := Lib.hid (HB0.out.trans (hb2.mono HB0.out.size))
  have HU2 := Lib.hid (HU.out.below hb2)
  clear hb2 HND HU
  go_wp2_with (fail)
  refine (HNW.out _).mono ?_; rintro e w3 ⟨p, F, rfl, hdv, hb3, hF⟩
  have HDV := Lib.hid hdv
  have HB3 := Lib.hid (HB2.out.trans (hb3.mono HB2.out.size))
  have HU3 := Lib.hid (HU2.out.below hb3)
  have HF := Lib.hid (fun k (hk : F k) => Nat.le_trans HB2.out.size (hF k hk))
  clear hdv hb3 hF HNW
  go_wp2_with (fail)
  refine (HFM.out _ F p _ HB3.out HDV.out HF.out HU3.out).mono ?_; rintro e w4 ⟨s, q, rfl, hus⟩
  have HS := Lib.hid hus
  clear hus HFM HDV HU3 HF HU2 HB0 HB1 HB2 HB3
  go_wp2_with (fail)
  refine (HBA.out _).mono ?_; rintro e w5 ⟨rfl, hb5⟩
  have HS5 := Lib.hid (HS.out.more hb5)
  clear hb5 HS
  go_wp2_with (fail)
  refine (HBB.out _).mono ?_; rintro e w6 ⟨rfl, hb6⟩
  have HS6 := Lib.hid (HS5.out.more hb6)
  clear hb6 HS5
  go_wp2_with (fail)
  refine (HWR.out _ s p q HS6.out).mono ?_; rintro e w7 ⟨rfl, Vp, hus7⟩
  have HS7 := Lib.hid hus7
  clear hus7 HS6 HWR
  go_wp2_with (fail)
  refine (HFL.out _ s p q Vp HS7.out).mono ?_; rintro e w8 ⟨rfl, hus8⟩
  have HS8 := Lib.hid hus8
  clear hus8 HS7 HFL
  go_wp2_with (fail)
  refine (HCR.out _ s p q HS8.out).mono ?_; rintro e w9 ⟨rfl, hdn⟩
  have HDN := Lib.hid hdn
  clear hdn HS8 HCR
  go_wp2_with (fail)
  refine (HOP.out _ p HDN.out).mono ?_; rintro e w10 ⟨s2, q2, rfl, hus⟩
  have HS := Lib.hid hus
  clear hus HDN HOP
  go_wp2_with (fail)
  refine (HRD.out _ s2 p q2 HS.out).mono ?_; rintro e w11 ⟨rfl, hus11⟩
  have HS11 := Lib.hid hus11
  clear hus11 HS HRD
  go_wp2_with (fail)
  refine (HZ.out _).mono ?_; rintro e w12 ⟨rfl, hb12⟩
  have HS12 := Lib.hid (HS11.out.more hb12)
  clear hb12 HS11
  go_wp2_with (fail)
  refine (HBA.out _).mono ?_; rintro e w13 ⟨rfl, hb13⟩
  have HS13 := Lib.hid (HS12.out.more hb13)
  clear hb13 HS12
  go_wp2_with (fail)
  refine (HBB.out _).mono ?_; rintro e w14 ⟨rfl, hb14⟩
  have HS14 := Lib.hid (HS13.out.more hb14)
  clear hb14 HS13
  go_wp2_with (fail)
  refine (HUS.out _ s2 p q2 HS14.out).mono ?_; rintro e w15 ⟨rfl, hus15⟩
  have HS15 := Lib.hid hus15
  clear hus15 HS14 HUS
  go_wp2_with (fail)
  refine (HUN.out _ s2 p q2 HS15.out).mono ?_; rintro e w16 ⟨g, rfl, hus16⟩
  have HS16 := Lib.hid hus16
  clear hus16 HS15 HUN
  go_wp2_with (fail)
  go_ret
  exact ⟨rfl, HS16.out.below⟩
open Go.RowKit
open Ext (Ex Exts exV ExtsF textX)
set_option maxRecDepth 100000 in
set_option maxHeartbeats 1000000 in
theorem read_void (w : World) (lun lba blocks : Int) :
    Calls Tryz.prog 22 #[.pointer none, .int .i64 lun, .int .i64 lba, .int .i64 blocks] w fun e w' => e = .returned (.tuple #[.string ⟨#[]⟩, .int .i64 80]) ∧ Below w.heap.size w w' := by
  have HT := Lib.hid (table_nil w lun)
  unfold zTb at HT
  go_enter Tryz.func22, Tryz.ntmps22
  go_wp2_with (fail)
  refine HT.out.mono ?_; rintro e w1 ⟨rfl, hb1⟩
  obtain ⟨_, hb2⟩ := one_alloc w1 #[.int .i64 0, .string ⟨#[]⟩, .string ⟨#[]⟩, .slice none 0 0] 140 _ rfl
  have R := Lib.hid (hb1.trans (hb2.mono hb1.size))
  have hnt := hnot_false (w1.alloc (.cells #[.int .i64 0, .string ⟨#[]⟩, .string ⟨#[]⟩, .slice none 0 0] 140))
  clear hb1 hb2 HT
  go_wp2_with (fail)
  go_ret2
  exact ⟨rfl, R.out⟩
set_option maxRecDepth 100000 in
set_option maxHeartbeats 1000000 in
theorem recorded_void (w : World) (lun : Int) :
    Calls Tryz.prog 32 #[.pointer none, .int .i64 lun] w fun e w' => e = .returned (.tuple #[.string ⟨#[]⟩, .int .i64 80]) ∧ Below w.heap.size w w' := by
  have HT := Lib.hid (table_nil w lun)
  unfold zTb at HT
  go_enter Tryz.func32, Tryz.ntmps32
  go_wp2_with (fail)
  refine HT.out.mono ?_; rintro e w1 ⟨rfl, hb1⟩
  obtain ⟨_, hb2⟩ := one_alloc w1 #[.int .i64 0, .string ⟨#[]⟩, .string ⟨#[]⟩, .slice none 0 0] 140 _ rfl
  have R := Lib.hid (hb1.trans (hb2.mono hb1.size))
  have hnt := hnot_false (w1.alloc (.cells #[.int .i64 0, .string ⟨#[]⟩, .string ⟨#[]⟩, .slice none 0 0] 140))
  clear hb1 hb2 HT
  go_wp2_with (fail)
  go_ret2
  exact ⟨rfl, R.out⟩
set_option maxRecDepth 100000 in
set_option maxHeartbeats 1000000 in
theorem write_void (w : World) (lun lba : Int) (t : ByteArray) :
    Calls Tryz.prog 18 #[.pointer none, .int .i64 lun, .int .i64 lba, .string t] w fun e w' => e = .returned (.int .i64 80) ∧ Below w.heap.size w w' := by
  have HT := Lib.hid (table_nil w lun)
  unfold zTb at HT
  go_enter Tryz.func18, Tryz.ntmps18
  go_wp2_with (fail)
  refine HT.out.mono ?_; rintro e w1 ⟨rfl, hb1⟩
  obtain ⟨_, hb2⟩ := one_alloc w1 #[.int .i64 0, .string ⟨#[]⟩, .string ⟨#[]⟩, .slice none 0 0] 140 _ rfl
  have R := Lib.hid (hb1.trans (hb2.mono hb1.size))
  have hnt := hnot_false (w1.alloc (.cells #[.int .i64 0, .string ⟨#[]⟩, .string ⟨#[]⟩, .slice none 0 0] 140))
  clear hb1 hb2 HT
  go_wp2_with (fail)
  go_ret
  exact ⟨rfl, R.out⟩
set_option maxRecDepth 100000 in
set_option maxHeartbeats 1000000 in
theorem clear_void (w : World) (lun : Int) (A : Option Addr) (k c : Nat) :
    Calls Tryz.prog 27 #[.pointer none, .int .i64 lun, .slice A k c] w fun e w' => e = .returned (.int .i64 80) ∧ Below w.heap.size w w' := by
  have HT := Lib.hid (table_nil w lun)
  unfold zTb at HT
  go_enter Tryz.func27, Tryz.ntmps27
  go_wp2_with (fail)
  refine HT.out.mono ?_; rintro e w1 ⟨rfl, hb1⟩
  obtain ⟨_, hb2⟩ := one_alloc w1 #[.int .i64 0, .string ⟨#[]⟩, .string ⟨#[]⟩, .slice none 0 0] 140 _ rfl
  have R := Lib.hid (hb1.trans (hb2.mono hb1.size))
  have hnt := hnot_false (w1.alloc (.cells #[.int .i64 0, .string ⟨#[]⟩, .string ⟨#[]⟩, .slice none 0 0] 140))
  clear hb1 hb2 HT
  go_wp2_with (fail)
  go_ret
  exact ⟨rfl, R.out⟩
set_option maxRecDepth 100000 in
set_option maxHeartbeats 1000000 in
theorem record_void (w : World) (lun : Int) (t : ByteArray) :
    Calls Tryz.prog 26 #[.pointer none, .int .i64 lun, .string t] w fun e w' => e = .returned (.int .i64 80) ∧ Below w.heap.size w w' := by
  have HT := Lib.hid (table_nil w lun)
  unfold zTb at HT
  go_enter Tryz.func26, Tryz.ntmps26
  go_wp2_with (fail)
  refine HT.out.mono ?_; rintro e w1 ⟨rfl, hb1⟩
  obtain ⟨_, hb2⟩ := one_alloc w1 #[.int .i64 0, .string ⟨#[]⟩, .string ⟨#[]⟩, .slice none 0 0] 140 _ rfl
  have R := Lib.hid (hb1.trans (hb2.mono hb1.size))
  have hnt := hnot_false (w1.alloc (.cells #[.int .i64 0, .string ⟨#[]⟩, .string ⟨#[]⟩, .slice none 0 0] 140))
  clear hb1 hb2 HT
  go_wp2_with (fail)
  go_ret
  exact ⟨rfl, R.out⟩
set_option maxRecDepth 100000 in
set_option maxHeartbeats 1000000 in
theorem used_void (w : World) (lun : Int) :
    Calls Tryz.prog 23 #[.pointer none, .int .i64 lun] w fun e w' => e = .returned (.int .i64 0) ∧ Below w.heap.size w w' := by
  have HT := Lib.hid (table_nil w lun)
  unfold zTb at HT
  go_enter Tryz.func23, Tryz.ntmps23
  go_wp2_with (fail)
  refine HT.out.mono ?_; rintro e w1 ⟨rfl, hb1⟩
  obtain ⟨_, hb2⟩ := one_alloc w1 #[.int .i64 0, .string ⟨#[]⟩, .string ⟨#[]⟩, .slice none 0 0] 140 _ rfl
  have R := Lib.hid (hb1.trans (hb2.mono hb1.size))
  have hnt := hnot_false (w1.alloc (.cells #[.int .i64 0, .string ⟨#[]⟩, .string ⟨#[]⟩, .slice none 0 0] 140))
  clear hb1 hb2 HT
  go_wp2_with (fail)
  go_ret
  exact ⟨rfl, R.out⟩
theorem flush_void (w : World) : Calls Tryz.prog 19 #[.pointer none] w fun e w' => e = .returned (.int .i64 1) ∧ w = w' := by
  go_enter Tryz.func19, Tryz.ntmps19
  go_wp2_with (fail)
  go_ret
  exact ⟨rfl, rfl⟩
set_option maxRecDepth 100000 in
set_option maxHeartbeats 1000000 in
theorem units_void (w : World) : Calls Tryz.prog 28 #[.pointer none] w fun e w' => ∃ g, e = .returned (.slice (some ⟨g, 0, none⟩) 0 0) ∧ Below w.heap.size w w' := by
  have HT := Lib.hid (fun v => tables_nil v)
  obtain ⟨cs, hmk, _⟩ := make_uns [] w (by decide)
  have hmk2 : (Instr.makeSlice 28 (.int .i64 0) (.int .i64 0)).run Tryz.prog w = .ok (.slice (some ⟨w.heap.size, 0, none⟩) 0 0) (w.alloc (.cells cs 27)) := hmk
  have HBA := Lib.hid ((Below.refl w.heap.size w).alloc (Nat.le_refl _) (.cells cs 27))
  clear hmk
  go_enter Tryz.func28, Tryz.ntmps28
  go_wp2_with (fail)
  refine (HT.out w).mono ?_; rintro e w1 ⟨rfl, rfl⟩
  go_wp2_with (fail)
  refine (HT.out _).mono ?_; rintro e w2 ⟨rfl, rfl⟩
  clear hmk2
  generalize (w.alloc (.cells cs 27)) = W at *
  go_wp2_with (fail)
  go_loopw [13] (fun i v => i = .int .i64 0 ∧ v = W) (fun _ _ => 0)
  case atStart => exact ⟨rfl, rfl⟩
  case round =>
    obtain ⟨rfl, rfl⟩ := hrel
    go_wp2_with (fail)
    go_ret
    exact ⟨_, rfl, HBA.out⟩
theorem tail_zero : tailN ⟨Array.replicate 512 0⟩ = 0 := by
  have hz : ∀ i, byt ⟨Array.replicate 512 0⟩ i = 0 := fun i => by
    unfold byt
    rw [List.getD_eq_getElem?_getD]
    simp only [Array.toList_replicate, List.getElem?_replicate]
    split <;> rfl
  unfold tailN
  rw [bigV_congr _ (readV (putHi 0 8) 0) 8 (fun i hi => by
    unfold readV
    rw [hz, Nat.zero_add, byt_put8 _ _ hi]
    simp)]
  exact big_put 0 8 (by decide) (by decide) (by decide)
theorem best_zero (n m : Nat) (hn : 8 ≤ n) : ∀ k, k ≤ 4 → (bestOf 0 m (part (St.new n).seen 0 4) k).1 = 0
  | 0, _ => rfl
  | k + 1, hk => by
    have ih := best_zero n m hn k (by omega)
    have hs : (St.new n).seen[0 + k]? = some ⟨Array.replicate 512 0⟩ := by
      show (List.replicate n (⟨Array.replicate 512 0⟩ : ByteArray))[0 + k]? = _
      rw [List.getElem?_replicate, if_pos (by omega)]
    have e := part_at (k := 4) hs (by omega)
    rw [best_no (fun h => ?_), ih]
    have := h.2
    rw [e, tail_zero] at this
    omega
open Go.RowKit
open Ext (Ex Exts exV ExtsF textX)
set_option maxRecDepth 100000 in
set_option maxHeartbeats 4000000 in
theorem storeNone_any (lun lba : Int) (w : World) (ht : Tab w) :
    Calls Tryz.prog 5 #[.int .i64 lun, .int .i64 lba] w fun e w' => e = .returned (.bool true) ∧ Below w.heap.size w w' := by
  have HWK := Lib.hid (fun v (hb : Below w.heap.size w v) => wakes_any v (ht.below hb))
  have HRD := Lib.hid (fun v => read_void v lun lba 1)
  have HRC := Lib.hid (fun v => recorded_void v lun)
  have HWR := Lib.hid (fun v => write_void v lun lba ⟨#[]⟩)
  have HCL : Hid (∀ v, Calls Tryz.prog 27 #[.pointer none, .int .i64 lun, .slice none 0 0] v fun e w' => e = .returned (.int .i64 80) ∧ Below v.heap.size v w') := Lib.hid (fun v => clear_void v lun none 0 0)
  have HRE := Lib.hid (fun v => record_void v lun ⟨#[]⟩)
  have HFL := Lib.hid (fun v => flush_void v)
  have HUN := Lib.hid (fun v => units_void v)
  have HUS := Lib.hid (fun v => used_void v lun)
  have HNW : Hid (∀ v, Calls Tryz.prog 13 #[.int .i64 700] v (NewOk v 700)) := Lib.hid (fun v => new_ok v 700 (by omega) (by omega))
  have HON := Lib.hid (fun v => sopen_nil v)
  have HOZ := Lib.hid (fun v F p (hv : Dv v F p 700 (St.new 700)) => sopen_none v hv (by omega) rfl (best_zero 700 576 (by omega) 4 (by omega)))
  clear ht
  go_enter Tryz.func5, Tryz.ntmps5
  go_wp2_with (fail)
  refine (HRD.out _).mono ?_; rintro e w1 ⟨rfl, hb⟩
  have B1 := Lib.hid hb
  clear hb HRD
  go_wp2_with (fail)
  refine (HRC.out _).mono ?_; rintro e w2 ⟨rfl, hb⟩
  have B2 := Lib.hid (B1.out.trans (hb.mono B1.out.size))
  clear hb HRC B1
  go_wp2_with (fail)
  refine (HNW.out _).mono ?_; rintro e w3 ⟨p, F, rfl, hdv, hb, hF⟩
  have DV := Lib.hid hdv
  have B3 := Lib.hid (B2.out.trans (hb.mono B2.out.size))
  clear hb hdv hF HNW B2
  go_wp2_with (fail)
  refine (HOZ.out _ F p DV.out).mono ?_; rintro e w4 ⟨rfl, hb⟩
  have B4 := Lib.hid (B3.out.trans (hb.mono B3.out.size))
  clear hb HOZ DV B3
  go_wp2_with (fail)
  refine (HON.out _).mono ?_; rintro e w5 ⟨rfl, rfl⟩
  go_wp2_with (fail)
  refine (HWR.out _).mono ?_; rintro e w6 ⟨rfl, hb⟩
  have B6 := Lib.hid (B4.out.trans (hb.mono B4.out.size))
  clear hb HWR B4
  go_wp2_with (fail)
  refine (HCL.out _).mono ?_; rintro e w7 ⟨rfl, hb⟩
  have B7 := Lib.hid (B6.out.trans (hb.mono B6.out.size))
  clear hb HCL B6
  go_wp2_with (fail)
  refine (HRE.out _).mono ?_; rintro e w8 ⟨rfl, hb⟩
  have B8 := Lib.hid (B7.out.trans (hb.mono B7.out.size))
  clear hb HRE B7
  go_wp2_with (fail)
  refine (HFL.out _).mono ?_; rintro e w9 ⟨rfl, rfl⟩
  go_wp2_with (fail)
  refine (HUN.out _).mono ?_; rintro e w10 ⟨g, rfl, hb⟩
  have B10 := Lib.hid (B8.out.trans (hb.mono B8.out.size))
  clear hb HUN B8
  go_wp2_with (fail)
  refine (HUS.out _).mono ?_; rintro e w11 ⟨rfl, hb⟩
  have B11 := Lib.hid (B10.out.trans (hb.mono B10.out.size))
  clear hb HUS B10
  go_wp2_with (fail)
  refine (HWK.out _ B11.out).mono ?_; rintro e w12 ⟨rfl, hb⟩
  have B12 := Lib.hid (B11.out.trans (hb.mono B11.out.size))
  clear hb HWK B11
  go_wp2_with (fail)
  go_ret
  exact ⟨rfl, B12.out⟩
end Go.Proofs.YtglfjlbhjaemgaaGreatDoor
