/- Heads, and what tears make of the sectors in which they stand. The state that stands on a device, and what tears leave of it. A journal at rest, and what a state that is begun leaves. What each call of a journal leaves on its device. What Format and Open leave; a device that is not armed. -/
import Derived.Test.YtglfjlbhjaemgaaGreatDoorPl24
import Derived.Test.YtglfjlbhjaemgaaGreatDoorPl13
import Derived.Test.YtglfjlbhjaemgaaGreatDoorPl14
namespace Go.Proofs.YtglfjlbhjaemgaaGreatDoor
open Go.RowKit
theorem bytes_of {a b : ByteArray} (hs : a.size = b.size) (h : ∀ i, i < a.size → byt a i = byt b i) : a = b := by
  apply bytes_ext
  refine List.ext_getElem (by simpa using hs) fun i h1 h2 => ?_
  have hi : i < a.size := by simpa using h1
  have := h i hi
  unfold byt at this
  rw [List.getD_eq_getElem?_getD, List.getD_eq_getElem?_getD, List.getElem?_eq_getElem h1, List.getElem?_eq_getElem h2] at this
  exact UInt8.toNat_inj.1 this
theorem byt_mix (k : Nat) (d old : ByteArray) (hd : d.size = 512) (ho : old.size = 512) (hk : k ≤ 512) (i : Nat) (hi : i < 512) : byt (mixS k d old) i = if i < k then byt d i else byt old i := by
  unfold mixS
  have h1 : (d.extract 0 k).size = k := by rw [ByteArray.size_extract]; omega
  split
  · rename_i h
    rw [byt_app_left _ _ _ (by omega), byt_ext _ _ _ _ (by omega)]
    rw [Nat.zero_add]
  · rename_i h
    have e : i = (d.extract 0 k).size + (i - k) := by omega
    rw [e, byt_app_right, byt_ext _ _ _ _ (by omega), h1]
theorem byt_put8 (N i : Nat) (h : i < 8) : byt (putHi N 8) i = N / 256 ^ (7 - i) % 256 := by
  rw [show putHi N 8 = putHi N ((8 : Nat) : Int) from rfl, putHi_yes (by decide) (by decide), byt_out _ _ _ h]
  unfold hiG
  rw [show 8 * (8 - 1 - i) = 8 * (7 - i) by omega, Nat.pow_mul]
theorem hd_size (n fr se half recs : Nat) : (hdS n fr se half recs).size = 512 := hdS_size n fr se half recs
theorem padB_size (n fr se half recs : Nat) : (padB (hdPre n fr se half recs) 504).size = 504 := by
  unfold padB
  rw [ByteArray.size_append, hdPre_size, zeros_size]
theorem hd_tail (n fr se half recs i : Nat) (_h : i < 8) : byt (hdS n fr se half recs) (504 + i) = byt (putHi n 8) i := by
  unfold hdS
  have e : 504 + i = (padB (hdPre n fr se half recs) 504).size + i := by rw [padB_size]
  rw [e, byt_app_right]
theorem hd_pre (n fr se half recs i : Nat) (h : i < 28) : byt (hdS n fr se half recs) i = byt (hdPre n fr se half recs) i := by
  unfold hdS
  rw [byt_app_left _ _ _ (by rw [padB_size]; omega)]
  unfold padB
  rw [byt_app_left _ _ _ (by rw [hdPre_size]; omega)]
theorem hd_front (n fr se half recs i : Nat) (h : i < 8) : byt (hdS n fr se half recs) (4 + i) = byt (putHi n 8) i := by
  rw [hd_pre _ _ _ _ _ _ (by omega)]
  unfold hdPre
  have p8 := putHi8 n
  have f4 := putHi4 fr
  have s4 := putHi4 se
  have h4 := putHi4 half
  have j4 := jmark_size
  rw [byt_app_left _ _ _ (by simp only [ByteArray.size_append]; omega), byt_app_left _ _ _ (by simp only [ByteArray.size_append]; omega), byt_app_left _ _ _ (by simp only [ByteArray.size_append]; omega), byt_app_left _ _ _ (by simp only [ByteArray.size_append]; omega)]
  rw [show 4 + i = jmark.size + i from rfl, byt_app_right]
theorem hd_half (n fr se half recs i : Nat) (h : i < 4) : byt (hdS n fr se half recs) (20 + i) = byt (putHi half 4) i := by
  rw [hd_pre _ _ _ _ _ _ (by omega)]
  unfold hdPre
  have p8 := putHi8 n
  have f4 := putHi4 fr
  have s4 := putHi4 se
  have h4 := putHi4 half
  have j4 := jmark_size
  rw [byt_app_left _ _ _ (by simp only [ByteArray.size_append]; omega)]
  have e : 20 + i = (jmark ++ putHi n 8 ++ putHi fr 4 ++ putHi se 4).size + i := by simp only [ByteArray.size_append]; omega
  rw [e, byt_app_right]
theorem hd_recs (n fr se half recs i : Nat) (h : i < 4) : byt (hdS n fr se half recs) (24 + i) = byt (putHi recs 4) i := by
  rw [hd_pre _ _ _ _ _ _ (by omega)]
  unfold hdPre
  have p8 := putHi8 n
  have f4 := putHi4 fr
  have s4 := putHi4 se
  have h4 := putHi4 half
  have j4 := jmark_size
  have e : 24 + i = (jmark ++ putHi n 8 ++ putHi fr 4 ++ putHi se 4 ++ putHi half 4).size + i := by simp only [ByteArray.size_append]; omega
  rw [e, byt_app_right]
theorem tailN_hd (n fr se half recs : Nat) (h : n < 18446744073709551616) : tailN (hdS n fr se half recs) = n := by
  unfold tailN
  rw [bigV_congr _ (readV (putHi n 8) 0) 8 (fun i hi => by unfold readV; rw [hd_tail _ _ _ _ _ _ hi, Nat.zero_add])]
  exact big_put n 8 (by decide) (by decide) (by omega)
theorem halfN_hd (n fr se half recs : Nat) (h : half < 4294967296) : halfN (hdS n fr se half recs) = half := by
  unfold halfN
  rw [bigV_congr _ (readV (putHi half 4) 0) 4 (fun i hi => by unfold readV; rw [hd_half _ _ _ _ _ _ hi, Nat.zero_add])]
  exact big_put half 4 (by decide) (by decide) (by omega)
theorem recsN_hd (n fr se half recs : Nat) (h : recs < 4294967296) : recsN (hdS n fr se half recs) = recs := by
  unfold recsN
  rw [bigV_congr _ (readV (putHi recs 4) 0) 4 (fun i hi => by unfold readV; rw [hd_recs _ _ _ _ _ _ hi, Nat.zero_add])]
  exact big_put recs 4 (by decide) (by decide) (by omega)
theorem isHead_hd (n fr se half recs : Nat) (h : n < 18446744073709551616) (hh : half < 2) (hr : recs < 4294967296) : isHead fr se (n % 4) (hdS n fr se half recs) = true := by
  unfold isHead
  rw [tailN_hd _ _ _ _ _ h, halfN_hd _ _ _ _ _ (by omega), recsN_hd _ _ _ _ _ hr]
  exact decide_eq_true ⟨rfl, rfl, hh⟩
/-- What may stand in a slot whose next head has number N: never a head with that number or a later one, whatever begins with that head's bytes. -/
structure OldS (N : Nat) (s : ByteArray) : Prop where
  size : s.size = 512
  last : byt s 511 ≠ N % 256
  low : ∀ j, j ≤ 8 → (∀ i, i < 8 → (if i < j then byt (putHi N 8) i else byt s (4 + i)) = byt s (504 + i)) → tailN s < N
theorem OldS.head {N fr se k : Nat} {s : ByteArray} (h : OldS N s) (hs : isHead fr se k s = true) : tailN s < N := by
  have := of_decide_eq_true hs
  refine h.low 0 (by omega) fun i hi => ?_
  rw [if_neg (by omega), ← this.1, hd_front _ _ _ _ _ _ hi, hd_tail _ _ _ _ _ _ hi]
theorem old_head {m N fr se half recs : Nat} (hm : m < 18446744073709551616) (hlt : m < N) (hne : m % 256 ≠ N % 256) : OldS N (hdS m fr se half recs) := by
  refine ⟨hd_size .., ?_, fun j hj h => by rw [tailN_hd _ _ _ _ _ hm]; exact hlt⟩
  rw [show (511 : Nat) = 504 + 7 from rfl, hd_tail _ _ _ _ _ _ (by decide), byt_put8 _ _ (by decide)]
  simpa using hne
theorem old_zero {N : Nat} (h1 : 1 ≤ N) (h4 : N ≤ 4) : OldS N ⟨Array.replicate 512 0⟩ := by
  have hz : ∀ i, byt ⟨Array.replicate 512 0⟩ i = 0 := fun i => by
    unfold byt
    rw [List.getD_eq_getElem?_getD]
    simp only [Array.toList_replicate, List.getElem?_replicate]
    split <;> rfl
  have ht : tailN ⟨Array.replicate 512 0⟩ = 0 := by
    unfold tailN
    rw [bigV_congr _ (readV (putHi 0 8) 0) 8 (fun i hi => by
      unfold readV
      rw [hz, Nat.zero_add, byt_put8 _ _ hi]
      simp)]
    exact big_put 0 8 (by decide) (by decide) (by decide)
  refine ⟨Array.size_replicate, ?_, fun _ _ _ => by rw [ht]; omega⟩
  rw [hz]
  omega
/-- A head that is torn is the whole head, or none. -/
theorem torn_head {N fr se half recs k : Nat} {s : ByteArray} (h : OldS N s) (hk : k < 512) : OldS N (mixS k (hdS N fr se half recs) s) := by
  have hd := hd_size N fr se half recs
  have hb := fun i hi => byt_mix k (hdS N fr se half recs) s hd h.size (by omega) i hi
  have hsz : (mixS k (hdS N fr se half recs) s).size = 512 := by
    unfold mixS
    rw [ByteArray.size_append, ByteArray.size_extract, ByteArray.size_extract, hd, h.size]
    omega
  refine ⟨hsz, ?_, fun j hj hm => ?_⟩
  · rw [hb 511 (by decide), if_neg (by omega)]
    exact h.last
  · by_cases h5 : k ≤ 504
    · have ht : tailN (mixS k (hdS N fr se half recs) s) = tailN s := by
        unfold tailN
        refine bigV_congr _ _ 8 fun i hi => ?_
        unfold readV
        rw [hb _ (by omega), if_neg (by omega)]
      rw [ht]
      refine h.low (max j (min 8 (k - 4))) (by omega) fun i hi => ?_
      have h1 := hm i hi
      rw [hb (504 + i) (by omega), if_neg (show ¬ 504 + i < k by omega), hb (4 + i) (by omega)] at h1
      by_cases hij : i < j
      · rw [if_pos hij] at h1
        rw [if_pos (by omega)]
        exact h1
      · rw [if_neg hij] at h1
        by_cases hik : 4 + i < k
        · rw [if_pos hik, hd_front _ _ _ _ _ _ hi] at h1
          rw [if_pos (by omega)]
          exact h1
        · rw [if_neg hik] at h1
          rw [if_neg (by omega)]
          exact h1
    · exfalso
      have h1 := hm 7 (by decide)
      rw [hb (504 + 7) (by decide), if_neg (show ¬ 504 + 7 < k by omega), hb (4 + 7) (by decide), if_pos (show 4 + 7 < k by omega), hd_front _ _ _ _ _ _ (by decide)] at h1
      rw [ite_self, byt_put8 _ _ (by decide)] at h1
      exact h.last (by rw [← h1]; simp)
theorem mix_whole {d old : ByteArray} (hd : d.size = 512) (ho : old.size = 512) : mixS 512 d old = d := by
  refine bytes_of ?_ fun i hi => ?_
  · unfold mixS
    rw [ByteArray.size_append, ByteArray.size_extract, ByteArray.size_extract]
    omega
  · have hi2 : i < 512 := by
      unfold mixS at hi
      rw [ByteArray.size_append, ByteArray.size_extract, ByteArray.size_extract] at hi
      omega
    rw [byt_mix 512 d old hd ho (by omega) i hi2, if_pos hi2]
/-- The frames of a state stand in its half. -/
def Body (L : List ByteArray) (j : Jn) : Prop := ∀ i, i < usedS (j.base :: j.recs) → L[halfAt j.fr j.se j.half + i]? = some (sec (framesS (j.num - j.recs.length) (j.base :: j.recs)) i)
/-- A state that can stand on a device of n sectors. -/
structure Sound (j : Jn) (n : Nat) : Prop where
  fits : j.Fits n
  used : j.used = usedS (j.base :: j.recs)
  long : ∀ t ∈ j.base :: j.recs, t.size ≤ 65536
  num : j.recs.length < j.num
  few : j.num < 100000000000
  most : n ≤ 8192
structure Disk (L : List ByteArray) (n : Nat) (j : Jn) : Prop where
  sound : Sound j n
  len : L.length = n
  secs : ∀ s ∈ L, s.size = 512
  head : L[slotAt j.fr j.num]? = some (hdS j.num j.fr j.se j.half j.recs.length)
  old : ∀ i, 1 ≤ i → i ≤ 3 → ∃ s, L[slotAt j.fr (j.num + i)]? = some s ∧ OldS (j.num + i) s
  body : Body L j
/-- Sectors that a state leaves free. -/
def Free (j : Jn) (i : Nat) : Prop := j.fr + 4 ≤ i ∧ i < j.fr + j.se ∧ ¬ (halfAt j.fr j.se j.half ≤ i ∧ i < halfAt j.fr j.se j.half + j.used)
theorem slot_lt (fr n : Nat) : slotAt fr n < fr + 4 := by unfold slotAt; omega
theorem half_ge (fr se half : Nat) : fr + 4 ≤ halfAt fr se half := by unfold halfAt; omega
theorem half_end {j : Jn} {n : Nat} (h : Sound j n) : halfAt j.fr j.se j.half + j.used ≤ j.fr + j.se := by
  have h1 := h.fits.used
  have h2 := h.fits.se
  have hz : hsz j.se = (j.se - 4) / 2 := rfl
  have h3 : j.half * hsz j.se ≤ 1 * hsz j.se := Nat.mul_le_mul_right _ h.fits.half
  unfold Jn.size at h1
  unfold halfAt
  omega
theorem sound_small {j : Jn} {n : Nat} (h : Sound j n) : j.recs.length < 4294967296 ∧ j.half < 2 ∧ j.num < 18446744073709551616 := by
  have h1 := h.fits.used
  have h2 := h.fits.recs
  have h3 := h.fits.fr
  have h4 := h.most
  have h5 := h.fits.half
  have h6 := h.few
  have hz : hsz j.se = (j.se - 4) / 2 := rfl
  unfold Jn.size at h1
  omega
theorem part_at {L : List ByteArray} {a k i : Nat} {s : ByteArray} (h : L[a + i]? = some s) (hi : i < k) : (part L a k).getD i ByteArray.empty = s := by
  unfold part
  rw [List.getD_eq_getElem?_getD, List.getElem?_take, if_pos hi, List.getElem?_drop, h]
  rfl
theorem disk_best {L : List ByteArray} {n : Nat} {j : Jn} (h : Disk L n j) : bestOf j.fr j.se (part L j.fr 4) 4 = (j.num, j.half, j.recs.length) := by
  obtain ⟨hr, hh, hn⟩ := sound_small h.sound
  have hpos := h.sound.num
  have at0 : (part L j.fr 4).getD (j.num % 4) ByteArray.empty = hdS j.num j.fr j.se j.half j.recs.length := part_at h.head (by omega)
  have own : isHead j.fr j.se (j.num % 4) ((part L j.fr 4).getD (j.num % 4) ByteArray.empty) = true := by rw [at0]; exact isHead_hd _ _ _ _ _ hn hh hr
  have others : ∀ k, k < 4 → k ≠ j.num % 4 → isHead j.fr j.se k ((part L j.fr 4).getD k ByteArray.empty) = true → tailN ((part L j.fr 4).getD k ByteArray.empty) < j.num := by
    intro k hk hne ht
    obtain ⟨i, h1, h3, hi⟩ : ∃ i, 1 ≤ i ∧ i ≤ 3 ∧ (j.num + i) % 4 = k := by
      refine ⟨(k + 4 - j.num % 4) % 4, ?_, ?_, ?_⟩ <;> omega
    obtain ⟨s, hs, hold⟩ := h.old i h1 h3
    have e : slotAt j.fr (j.num + i) = j.fr + k := by unfold slotAt; rw [hi]
    rw [e] at hs
    have e2 := part_at (k := 4) hs hk
    rw [e2] at ht ⊢
    have h5 := hold.head ht
    have h6 := (of_decide_eq_true ht).2.1
    omega
  have key : ∀ m, m ≤ 4 → (m ≤ j.num % 4 → (bestOf j.fr j.se (part L j.fr 4) m).1 < j.num) ∧ (j.num % 4 < m → bestOf j.fr j.se (part L j.fr 4) m = (j.num, j.half, j.recs.length)) := by
    intro m
    induction m with
    | zero => exact fun _ => ⟨fun _ => by show 0 < j.num; omega, fun h => absurd h (Nat.not_lt_zero _)⟩
    | succ m ih =>
      intro hm
      obtain ⟨i1, i2⟩ := ih (by omega)
      refine ⟨fun hle => ?_, fun hlt => ?_⟩
      · by_cases hb : isHead j.fr j.se m ((part L j.fr 4).getD m ByteArray.empty) = true ∧ (bestOf j.fr j.se (part L j.fr 4) m).1 < tailN ((part L j.fr 4).getD m ByteArray.empty)
        · rw [best_yes hb.1 hb.2]
          exact others m (by omega) (by omega) hb.1
        · rw [best_no hb]
          exact i1 (by omega)
      · by_cases he : m = j.num % 4
        · subst he
          have hb := i1 (Nat.le_refl _)
          rw [best_yes own (by rw [at0, tailN_hd _ _ _ _ _ hn]; exact hb), at0, tailN_hd _ _ _ _ _ hn, halfN_hd _ _ _ _ _ (by omega), recsN_hd _ _ _ _ _ hr]
        · have hb := i2 (by omega)
          rw [best_no (fun hc => ?_), hb]
          have h5 := others m (by omega) he hc.1
          have h6 := hc.2
          rw [hb] at h6
          exact absurd h6 (by show ¬ j.num < _; omega)
  exact (key 4 (Nat.le_refl _)).2 (by omega)
theorem ext_join (F : ByteArray) (a b : Nat) (h : a ≤ b) (hb : b ≤ F.size) : F.extract 0 a ++ F.extract a b = F.extract 0 b := by
  refine bytes_of (by rw [ByteArray.size_append, ByteArray.size_extract, ByteArray.size_extract, ByteArray.size_extract]; omega) fun i hi => ?_
  rw [ByteArray.size_append, ByteArray.size_extract, ByteArray.size_extract] at hi
  by_cases hia : i < a
  · rw [byt_app_left _ _ _ (by rw [ByteArray.size_extract]; omega), byt_ext _ _ _ _ (by omega), byt_ext _ _ _ _ (by omega)]
  · have e : i = (F.extract 0 a).size + (i - a) := by rw [ByteArray.size_extract]; omega
    rw [byt_ext F 0 b i (by omega), e, byt_app_right, byt_ext _ _ _ _ (by omega)]
    congr 1
    rw [ByteArray.size_extract]
    omega
theorem cat_secs {L : List ByteArray} {F : ByteArray} {a u : Nat} (hF : F.size = 512 * u) (h : ∀ i, i < u → L[a + i]? = some (sec F i)) : catS (part L a u) = F := by
  have key : ∀ m, m ≤ u → catS (part L a m) = F.extract 0 (512 * m) := by
    intro m
    induction m with
    | zero => intro _; rw [part_zero, catS_nil]; apply bytes_ext; simp
    | succ m ih =>
      intro hm
      rw [part_snoc (h m (by omega)), ← catS_snoc, ih (by omega)]
      unfold sec
      rw [show m * 512 = 512 * m by omega, show (m + 1) * 512 = 512 * (m + 1) by omega]
      exact ext_join F _ _ (by omega) (by omega)
  rw [key u (Nat.le_refl _), ← hF]
  exact ByteArray.extract_zero_size
theorem catS_app (a b : List ByteArray) : catS (a ++ b) = catS a ++ catS b := by
  apply bytes_ext
  rw [app_list]
  unfold catS
  simp [flatB]
theorem part_join (L : List ByteArray) (a u v : Nat) : part L a (u + v) = part L a u ++ part L (a + u) v := by
  unfold part
  rw [List.take_add, List.drop_drop]
theorem disk_cat {L : List ByteArray} {n : Nat} {j : Jn} (h : Disk L n j) : ∃ r, catS (part L (halfAt j.fr j.se j.half) (hsz j.se)) = fromK (j.num - j.recs.length) (j.base :: j.recs) r 0 := by
  have hu := h.sound.fits.used
  have hus := h.sound.used
  unfold Jn.size at hu
  refine ⟨catS (part L (halfAt j.fr j.se j.half + j.used) (hsz j.se - j.used)), ?_⟩
  rw [show hsz j.se = j.used + (hsz j.se - j.used) by omega, part_join, catS_app, show j.used + (hsz j.se - j.used) - j.used = hsz j.se - j.used by omega]
  unfold fromK
  rw [List.drop_zero, Nat.add_zero]
  congr 1
  rw [hus]
  exact cat_secs (framesS_size _ _) h.body
theorem body_set {L : List ByteArray} {j : Jn} {i : Nat} {s : ByteArray} (h : Body L j) (hu : j.used = usedS (j.base :: j.recs)) (hi : ¬ (halfAt j.fr j.se j.half ≤ i ∧ i < halfAt j.fr j.se j.half + j.used)) : Body (L.set i s) j := by
  intro k hk
  rw [List.getElem?_set_ne (by omega)]
  exact h k hk
theorem disk_free {L : List ByteArray} {n : Nat} {j : Jn} (h : Disk L n j) {i : Nat} {s : ByteArray} (hf : Free j i) (hs : s.size = 512) : Disk (L.set i s) n j := by
  refine ⟨h.sound, by rw [List.length_set]; exact h.len, fun t ht => (mem_set ht).elim (h.secs t) (fun e => by rw [e]; exact hs), ?_, fun k h1 h3 => ?_, body_set h.body h.sound.used hf.2.2⟩
  · have := slot_lt j.fr j.num
    rw [List.getElem?_set_ne (by have := hf.1; omega)]
    exact h.head
  · obtain ⟨t, ht, ho⟩ := h.old k h1 h3
    have := slot_lt j.fr (j.num + k)
    exact ⟨t, by rw [List.getElem?_set_ne (by have := hf.1; omega)]; exact ht, ho⟩
/-- The write of a state's head. -/
def headW (j : Jn) : Nat × ByteArray := (slotAt j.fr j.num, hdS j.num j.fr j.se j.half j.recs.length)
structure Next (a b : Jn) : Prop where
  fr : b.fr = a.fr
  se : b.se = a.se
  num : b.num = a.num + 1
theorem slot_ne {fr a b : Nat} (h : a % 4 ≠ b % 4) : slotAt fr a ≠ slotAt fr b := by unfold slotAt; omega
/-- A new head over a state leaves that state, if it is torn. -/
theorem disk_torn {L : List ByteArray} {n : Nat} {a b : Jn} (h : Disk L n a) (hn : Next a b) {k : Nat} (hk : k < 512) : Disk (tear1 L (headW b) k) n a := by
  obtain ⟨s, hs, ho⟩ := h.old 1 (by omega) (by omega)
  have e : slotAt b.fr b.num = slotAt a.fr (a.num + 1) := by rw [hn.fr, hn.num]
  have hg : L.getD (headW b).1 ByteArray.empty = s := by
    show L.getD (slotAt b.fr b.num) ByteArray.empty = s
    rw [e, List.getD_eq_getElem?_getD, hs]; rfl
  have hl : slotAt a.fr (a.num + 1) < L.length := (List.getElem?_eq_some_iff.1 hs).1
  unfold tear1
  rw [hg]
  show Disk (L.set (slotAt b.fr b.num) (mixS k (hdS b.num b.fr b.se b.half b.recs.length) s)) n a
  rw [e, hn.num]
  have hto := torn_head (fr := b.fr) (se := b.se) (half := b.half) (recs := b.recs.length) ho hk
  refine ⟨h.sound, by rw [List.length_set]; exact h.len, fun t ht => (mem_set ht).elim (h.secs t) (fun e => by rw [e]; exact hto.size), ?_, fun i h1 h3 => ?_, body_set h.body h.sound.used ?_⟩
  · rw [List.getElem?_set_ne (slot_ne (by omega))]
    exact h.head
  · by_cases hi : i = 1
    · subst hi
      exact ⟨_, List.getElem?_set_self hl, hto⟩
    · obtain ⟨t, ht, ho'⟩ := h.old i h1 h3
      exact ⟨t, by rw [List.getElem?_set_ne (slot_ne (by omega))]; exact ht, ho'⟩
  · have := slot_lt a.fr (a.num + 1)
    have := half_ge a.fr a.se a.half
    omega
/-- A new head over a state whose frames stand makes the next one. -/
theorem disk_next {L : List ByteArray} {n : Nat} {a b : Jn} (h : Disk L n a) (hn : Next a b) (hb : Sound b n) (hbody : Body L b) : Disk (L.set (headW b).1 (headW b).2) n b := by
  have e : slotAt b.fr b.num = slotAt a.fr (a.num + 1) := by rw [hn.fr, hn.num]
  obtain ⟨s, hs, ho⟩ := h.old 1 (by omega) (by omega)
  have hl : slotAt a.fr (a.num + 1) < L.length := (List.getElem?_eq_some_iff.1 hs).1
  show Disk (L.set (slotAt b.fr b.num) (hdS b.num b.fr b.se b.half b.recs.length)) n b
  refine ⟨hb, by rw [List.length_set]; exact h.len, fun t ht => (mem_set ht).elim (h.secs t) (fun e => by rw [e]; exact hd_size ..), ?_, fun i h1 h3 => ?_, body_set hbody hb.used ?_⟩
  · exact List.getElem?_set_self (by rw [e]; exact hl)
  · have hne : slotAt b.fr b.num ≠ slotAt b.fr (b.num + i) := slot_ne (by omega)
    by_cases hi : i = 3
    · subst hi
      refine ⟨_, by rw [List.getElem?_set_ne hne, show slotAt b.fr (b.num + 3) = slotAt a.fr a.num by rw [hn.fr, hn.num]; unfold slotAt; omega]; exact h.head, ?_⟩
      rw [hn.num]
      have := (sound_small h.sound).2.2
      exact old_head this (by omega) (by omega)
    · obtain ⟨t, ht, ho'⟩ := h.old (i + 1) (by omega) (by omega)
      refine ⟨t, by rw [List.getElem?_set_ne hne, show slotAt b.fr (b.num + i) = slotAt a.fr (a.num + (i + 1)) by rw [hn.fr, hn.num]; congr 1; omega]; exact ht, ?_⟩
      rw [hn.num, show a.num + 1 + i = a.num + (i + 1) by omega]
      exact ho'
  · have := slot_lt b.fr b.num
    have := half_ge b.fr b.se b.half
    omega
theorem mix_self {k : Nat} {d : ByteArray} (hd : d.size = 512) (hk : k ≤ 512) : mixS k d d = d := by
  refine bytes_of (by rw [mix_size hk hd hd, hd]) fun i hi => ?_
  rw [mix_size hk hd hd] at hi
  rw [byt_mix k d d hd hd hk i hi]
  split <;> rfl
theorem set_same' {L : List ByteArray} {i : Nat} {s : ByteArray} (h : L[i]? = some s) : L.set i s = L := by
  refine List.ext_getElem? fun k => ?_
  by_cases e : i = k
  · subst e; rw [List.getElem?_set_self (List.getElem?_eq_some_iff.1 h).1, h]
  · rw [List.getElem?_set_ne e]
/-- One of two states stands: the former one, and the next one's frames; or the next one. -/
def Two (L : List ByteArray) (n : Nat) (a b : Jn) : Prop := (Disk L n a ∧ Body L b) ∨ Disk L n b
structure Pair (a b : Jn) (n : Nat) : Prop where
  next : Next a b
  sa : Sound a n
  sb : Sound b n
/-- A write that is held back, which leaves one of two states. -/
def Fit2 (a b : Jn) (h : Nat × ByteArray) : Prop := (Free a h.1 ∧ Free b h.1 ∧ h.2.size = 512) ∨ h = headW b
theorem two_step {L : List ByteArray} {n : Nat} {a b : Jn} (hp : Pair a b n) (h : Two L n a b) {w : Nat × ByteArray} (hw : Fit2 a b w) {k : Nat} (hk : k ≤ 512) : Two (tear1 L w k) n a b := by
  rcases hw with ⟨ha, hb, hs⟩ | rfl
  · have hsz : ∀ (hl : ∀ s ∈ L, s.size = 512) (hlen : w.1 < L.length), (mixS k w.2 (L.getD w.1 ByteArray.empty)).size = 512 := fun hl hlen => by
      refine mix_size hk hs (hl _ ?_)
      rw [List.getD_eq_getElem?_getD, List.getElem?_eq_getElem hlen, Option.getD_some]
      exact List.getElem_mem _
    rcases h with ⟨h1, h2⟩ | h1
    · have hlen : w.1 < L.length := by have := ha.2.1; have := hp.sa.fits.fr; rw [h1.len]; omega
      exact .inl ⟨disk_free h1 ha (hsz h1.secs hlen), body_set h2 hp.sb.used hb.2.2⟩
    · have hlen : w.1 < L.length := by have := hb.2.1; have := hp.sb.fits.fr; rw [h1.len]; omega
      exact .inr (disk_free h1 hb (hsz h1.secs hlen))
  · rcases h with ⟨h1, h2⟩ | h1
    · by_cases h5 : k < 512
      · refine .inl ⟨disk_torn h1 hp.next h5, ?_⟩
        have := slot_lt b.fr b.num
        have := half_ge b.fr b.se b.half
        refine body_set h2 hp.sb.used ?_
        show ¬ (_ ≤ slotAt b.fr b.num ∧ _)
        omega
      · obtain rfl : k = 512 := by omega
        obtain ⟨s, hs, ho⟩ := h1.old 1 (by omega) (by omega)
        have hg : L.getD (headW b).1 ByteArray.empty = s := by
          show L.getD (slotAt b.fr b.num) ByteArray.empty = s
          rw [hp.next.fr, hp.next.num, List.getD_eq_getElem?_getD, hs]; rfl
        unfold tear1
        rw [hg, show mixS 512 (headW b).2 s = (headW b).2 from mix_whole (hd_size ..) ho.size]
        exact .inr (disk_next h1 hp.next hp.sb h2)
    · have hg : L.getD (headW b).1 ByteArray.empty = (headW b).2 := by
        show L.getD (slotAt b.fr b.num) ByteArray.empty = _
        rw [List.getD_eq_getElem?_getD, h1.head]; rfl
      unfold tear1
      rw [hg, show mixS k (headW b).2 (headW b).2 = (headW b).2 from mix_self (hd_size ..) hk, show L.set (headW b).1 (headW b).2 = L from set_same' h1.head]
      exact .inr h1
theorem two_tear {L : List ByteArray} {n : Nat} {a b : Jn} (hp : Pair a b n) (h : Two L n a b) {hs : List (Nat × ByteArray)} (hw : ∀ w ∈ hs, Fit2 a b w) (keep : List Int) (k : Nat) : Two (tearN L hs keep k) n a b := by
  induction k with
  | zero => exact h
  | succ k ih =>
    unfold tearN
    split
    · exact ih
    · rename_i w hk
      exact two_step hp ih (hw w (List.mem_of_getElem? hk)) (kept_le _ _)
theorem one_tear {L : List ByteArray} {n : Nat} {a : Jn} (h : Disk L n a) {hs : List (Nat × ByteArray)} (hw : ∀ w ∈ hs, Free a w.1 ∧ w.2.size = 512) (keep : List Int) (k : Nat) : Disk (tearN L hs keep k) n a := by
  induction k with
  | zero => exact h
  | succ k ih =>
    unfold tearN
    split
    · exact ih
    · rename_i w hk
      obtain ⟨hf, hz⟩ := hw w (List.mem_of_getElem? hk)
      have hlen : w.1 < (tearN L hs keep k).length := by have := hf.2.1; have := h.sound.fits.fr; rw [ih.len]; omega
      refine disk_free ih hf (mix_size (kept_le _ _) hz (ih.secs _ ?_))
      rw [List.getD_eq_getElem?_getD, List.getElem?_eq_getElem hlen, Option.getD_some]
      exact List.getElem_mem _
/-- Behind any crash one of these states stands. -/
def Crashes (x : St) (n : Nat) (P : Jn → Prop) : Prop := ∀ keep, ∃ j, P j ∧ Disk (x.crash keep).safe n j
/-- A journal at rest: nothing is held back, or its head alone, the former state beneath. -/
def Rest (x : St) (n : Nat) (j : Jn) : Prop :=
  (x.held = [] ∧ Disk x.safe n j) ∨ ∃ a, x.held = [headW j] ∧ Disk x.safe n a ∧ Body x.safe j ∧ Pair a j n ∧ a.half = j.half ∧ a.used ≤ j.used
def Under (x : St) (n : Nat) (j a : Jn) : Prop := x.held = [headW j] ∧ Disk x.safe n a ∧ Body x.safe j ∧ Pair a j n ∧ a.half = j.half ∧ a.used ≤ j.used
theorem rest_sound {x : St} {n : Nat} {j : Jn} (h : Rest x n j) : Sound j n := by
  rcases h with ⟨_, h⟩ | ⟨a, _, _, _, hp, _⟩
  · exact h.sound
  · exact hp.sb
theorem rest_seen {x : St} {n : Nat} {j : Jn} (h : Rest x n j) : Disk x.seen n j := by
  rcases h with ⟨h0, h⟩ | ⟨a, h0, h1, h2, hp, _⟩
  · unfold St.seen putAll; rw [h0]; exact h
  · unfold St.seen putAll; rw [h0]; exact disk_next h1 hp.next hp.sb h2
/-- What a write leaves. -/
theorem wr_form (i : Nat) (s : ByteArray) : ∀ (m k : Nat) (x : St), ∃ c, c ≤ m ∧ (x.wr i s k m).1.held = x.held ++ secL s i k c ∧ (x.wr i s k m).1.safe = x.safe ∧ ((x.wr i s k m).2 = true → c = m ∧ (x.wr i s k m).1.down = x.down ∧ (x.wr i s k m).1.armed = x.armed) ∧ ((x.wr i s k m).2 = false → (x.wr i s k m).1.down = true)
  | 0, k, x => ⟨0, Nat.le_refl _, by simp [St.wr, secL], rfl, fun _ => ⟨rfl, rfl, rfl⟩, (fun h => by cases h)⟩
  | m + 1, k, x => by
    unfold St.wr
    split
    · exact ⟨0, Nat.zero_le _, by simp [St.fall, secL], rfl, (fun h => by cases h), fun _ => rfl⟩
    · obtain ⟨c, h1, h2, h3, h4, h5⟩ := wr_form i s m (k + 1) (x.oped.hold (i + k) (sec s k))
      refine ⟨c + 1, by omega, ?_, h3, fun h => ?_, h5⟩
      · rw [h2, secL_succ]
        show (x.held ++ [(i + k, sec s k)]) ++ _ = _
        simp
      · obtain ⟨e1, e2, e3⟩ := h4 h
        exact ⟨by omega, e2, e3⟩
theorem put_form (x : St) (i m : Nat) (s : ByteArray) : ∃ c, c ≤ m ∧ (x.put i s m).1.held = x.held ++ secL s i 0 c ∧ (x.put i s m).1.safe = x.safe ∧ ((x.put i s m).2 = true → c = m ∧ (x.put i s m).1.down = x.down ∧ (x.put i s m).1.armed = x.armed) ∧ ((x.put i s m).2 = false → (x.put i s m).1.down = true) := by
  unfold St.put
  split
  · rename_i hd
    exact ⟨0, Nat.zero_le _, by simp [secL], rfl, (fun h => by cases h), fun _ => hd⟩
  · exact wr_form i s m 0 x
theorem secL_mem {s : ByteArray} {i c : Nat} {w : Nat × ByteArray} (h : w ∈ secL s i 0 c) : ∃ k, k < c ∧ w = (i + k, sec s k) := by
  unfold secL at h
  obtain ⟨k, hk, rfl⟩ := List.mem_map.1 h
  exact ⟨k, List.mem_range.1 hk, by simp⟩
theorem putAll_app (l : List ByteArray) (a b : List (Nat × ByteArray)) : putAll l (a ++ b) = putAll (putAll l a) b := by unfold putAll; rw [List.foldl_append]
/-- The sectors that were written are read. -/
theorem put_there {L : List ByteArray} {s : ByteArray} {i : Nat} : ∀ c, i + c ≤ L.length → ∀ k, k < c → (putAll L (secL s i 0 c))[i + k]? = some (sec s k)
  | 0, _, k, hk => by omega
  | c + 1, hc, k, hk => by
    have e : secL s i 0 (c + 1) = secL s i 0 c ++ [(i + c, sec s c)] := by unfold secL; rw [List.range_succ, List.map_append]; simp
    rw [e, putAll_snoc]
    by_cases h : c = k
    · subst h; rw [List.getElem?_set_self (by rw [putAll_length]; omega)]
    · rw [List.getElem?_set_ne (by omega)]
      exact put_there c (by omega) k (by omega)
/-- Where a text may be entered: behind the used sectors of the half, or in the other half. -/
structure Spot (j : Jn) (half behind m : Nat) : Prop where
  low : half ≤ 1
  room : behind + m ≤ j.size
  apart : half ≠ j.half ∨ j.used ≤ behind
theorem spot_at {j : Jn} {n half behind m : Nat} (hs : Sound j n) (hp : Spot j half behind m) : j.fr + 4 ≤ halfAt j.fr j.se half + behind ∧ halfAt j.fr j.se half + behind + m ≤ j.fr + j.se ∧ halfAt j.fr j.se half + behind + m ≤ n := by
  have h1 := hp.room
  have h2 := hs.fits.se
  have h5 := hs.fits.fr
  have hz : hsz j.se = (j.se - 4) / 2 := rfl
  have h3 : half * hsz j.se ≤ 1 * hsz j.se := Nat.mul_le_mul_right _ hp.low
  unfold Jn.size at h1
  unfold halfAt
  omega
theorem spot_free {j a : Jn} {n half behind m c k : Nat} {s : ByteArray} (hs : Sound j n) (ha : Sound a n) (hfr : a.fr = j.fr) (hse : a.se = j.se) (hh : a.half = j.half) (hu : a.used ≤ j.used) (hp : Spot j half behind m) (hc : c ≤ m) (hk : k < c) :
    Free a ((halfAt j.fr j.se half + behind + k, sec s k) : Nat × ByteArray).1 := by
  obtain ⟨p1, p2, _⟩ := spot_at hs hp
  have hr := hp.room
  have hz : hsz j.se = (j.se - 4) / 2 := rfl
  have hus := hs.fits.used
  have hj := hs.fits.half
  have hpp := hp.low
  unfold Jn.size at hr hus
  show a.fr + 4 ≤ _ ∧ _ < a.fr + a.se ∧ ¬ (halfAt a.fr a.se a.half ≤ _ ∧ _ < halfAt a.fr a.se a.half + a.used)
  rw [hfr, hse, hh]
  have _ := ha
  refine ⟨by omega, by omega, fun ⟨h1, h2⟩ => ?_⟩
  rcases hp.apart with h | h
  · unfold halfAt at h1 h2
    rcases Nat.lt_or_ge half j.half with hl | hl
    · have e1 : half = 0 := by omega
      have e2 : j.half = 1 := by omega
      rw [e1, e2] at h1
      omega
    · have e1 : half = 1 := by omega
      have e2 : j.half = 0 := by omega
      rw [e1, e2] at h2
      omega
  · by_cases e : half = j.half
    · rw [e] at h1 h2; omega
    · unfold halfAt at h1 h2
      rcases Nat.lt_or_ge half j.half with hl | hl
      · have e1 : half = 0 := by omega
        have e2 : j.half = 1 := by omega
        rw [e1, e2] at h1
        omega
      · have e1 : half = 1 := by omega
        have e2 : j.half = 0 := by omega
        rw [e1, e2] at h2
        omega
/-- Behind a body that was written, or cut off, a crash leaves a state that it could leave before. -/
theorem body_crash {x : St} {n : Nat} {j : Jn} (h : Rest x n j) {t : ByteArray} {half behind : Nat} (hp : Spot j half behind (secF t.size)) : Crashes (j.body x t half behind).1 n (fun i => i = j ∨ Under x n j i) := by
  obtain ⟨c, hc, h1, h2, _⟩ := put_form x (halfAt j.fr j.se half + behind) (secF t.size) (putS (j.num + 1) t)
  have hs := rest_sound h
  have hsz := putS_size (j.num + 1) t
  have hsec : ∀ k, k < c → (sec (putS (j.num + 1) t) k).size = 512 := fun k hk => sec_size (m := secF t.size) (by omega) (by omega)
  intro keep
  show ∃ i, _ ∧ Disk (tearN (j.body x t half behind).1.safe (j.body x t half behind).1.held keep (j.body x t half behind).1.held.length) n i
  unfold Jn.body
  rw [h1, h2]
  rcases h with ⟨h0, hd⟩ | ⟨a, h0, ha, hb, hpr, hh, hu⟩
  · refine ⟨j, .inl rfl, one_tear hd (fun w hw => ?_) keep _⟩
    rw [h0, List.nil_append] at hw
    obtain ⟨k, hk, rfl⟩ := secL_mem hw
    exact ⟨spot_free hs hs rfl rfl rfl (Nat.le_refl _) hp hc hk, hsec k hk⟩
  · have := two_tear hpr (.inl ⟨ha, hb⟩) (hs := x.held ++ secL (putS (j.num + 1) t) (halfAt j.fr j.se half + behind) 0 c) (fun w hw => by
      rcases List.mem_append.1 hw with hw | hw
      · rw [h0] at hw
        exact .inr (List.mem_singleton.1 hw)
      · obtain ⟨k, hk, rfl⟩ := secL_mem hw
        exact .inl ⟨spot_free hs hpr.sa hpr.next.fr.symm hpr.next.se.symm hh hu hp hc hk, spot_free hs hs rfl rfl rfl (Nat.le_refl _) hp hc hk, hsec k hk⟩) keep (x.held ++ secL (putS (j.num + 1) t) (halfAt j.fr j.se half + behind) 0 c).length
    rcases this with ⟨h3, _⟩ | h3
    · exact ⟨a, .inr ⟨h0, ha, hb, hpr, hh, hu⟩, h3⟩
    · exact ⟨j, .inl rfl, h3⟩
theorem flsh_yes {x : St} (h : x.flsh.2 = true) : x.flsh.1.safe = x.seen ∧ x.flsh.1.held = [] ∧ x.flsh.1.down = x.down ∧ x.flsh.1.armed = x.armed := by
  unfold St.flsh at h ⊢
  split at h
  · cases h
  · split at h
    · cases h
    · rename_i h1 h2
      rw [if_neg h1, if_neg h2]
      exact ⟨rfl, rfl, rfl, rfl⟩
theorem flsh_no {x : St} (h : x.flsh.2 = false) : x.flsh.1.safe = x.safe ∧ x.flsh.1.held = x.held ∧ x.flsh.1.down = true := by
  unfold St.flsh at h ⊢
  split at h
  · rename_i h1
    rw [if_pos h1]
    exact ⟨rfl, rfl, h1⟩
  · split at h
    · rename_i h1 h2
      rw [if_neg h1, if_pos h2]
      exact ⟨rfl, rfl, rfl⟩
    · cases h
theorem crashes_same {x y : St} {n : Nat} {P : Jn → Prop} (h : Crashes x n P) (hs : y.safe = x.safe) (hh : y.held = x.held) : Crashes y n P := by
  intro keep
  obtain ⟨j, hp, hd⟩ := h keep
  refine ⟨j, hp, ?_⟩
  show Disk (tearN y.safe y.held keep y.held.length) n j
  rw [hs, hh]
  exact hd
theorem put1_no {x : St} {i : Nat} {s : ByteArray} (h : (x.put i s 1).2 = false) : (x.put i s 1).1.safe = x.safe ∧ (x.put i s 1).1.held = x.held := by
  unfold St.put at h ⊢
  split at h
  · rename_i h1; rw [if_pos h1]; exact ⟨rfl, rfl⟩
  · rename_i h1
    rw [if_neg h1]
    unfold St.wr at h ⊢
    split at h
    · rename_i h2; rw [if_pos h2]; exact ⟨rfl, rfl⟩
    · cases h
theorem sec_left {a b : ByteArray} {i u : Nat} (ha : a.size = 512 * u) (hi : i < u) : sec (a ++ b) i = sec a i := by
  unfold sec
  refine bytes_of (by rw [ByteArray.size_extract, ByteArray.size_extract, ByteArray.size_append]; omega) fun k hk => ?_
  rw [ByteArray.size_extract, ByteArray.size_append] at hk
  rw [byt_ext _ _ _ _ (by omega), byt_ext _ _ _ _ (by omega), byt_app_left _ _ _ (by omega)]
theorem sec_right {a b : ByteArray} {i u : Nat} (ha : a.size = 512 * u) (hi : u ≤ i) : sec (a ++ b) i = sec b (i - u) := by
  unfold sec
  rw [extR _ _ _ _ (by omega), ha, show i * 512 - 512 * u = (i - u) * 512 by omega, show (i + 1) * 512 - 512 * u = (i - u + 1) * 512 by omega]
theorem disk_putAll {n : Nat} {j : Jn} : ∀ (hs : List (Nat × ByteArray)) (L : List ByteArray), Disk L n j → (∀ w ∈ hs, Free j w.1 ∧ w.2.size = 512) → Disk (putAll L hs) n j
  | [], L, h, _ => h
  | w :: hs, L, h, hw => by
    obtain ⟨h1, h2⟩ := hw w (List.mem_cons_self ..)
    exact disk_putAll hs (putHs L w) (disk_free h h1 h2) (fun v hv => hw v (List.mem_cons_of_mem _ hv))
/-- The next state's frames: those that stand, and the new one. -/
structure Grows (j b : Jn) (t : ByteArray) (half behind : Nat) : Prop where
  next : Next j b
  half : b.half = half
  used : usedS (b.base :: b.recs) = behind + secF t.size
  old : ∀ i, i < behind → b.half = j.half ∧ i < usedS (j.base :: j.recs) ∧ sec (framesS (b.num - b.recs.length) (b.base :: b.recs)) i = sec (framesS (j.num - j.recs.length) (j.base :: j.recs)) i
  new : ∀ i, i < secF t.size → sec (framesS (b.num - b.recs.length) (b.base :: b.recs)) (behind + i) = sec (putS (j.num + 1) t) i
/-- A state that was begun. -/
theorem enter_math {x : St} {n : Nat} {j b : Jn} (h : Rest x n j) {t : ByteArray} {half behind : Nat} (hp : Spot j half behind (secF t.size)) (hg : Grows j b t half behind) :
    ((j.enter x t half behind b.recs.length).2 = true → (j.enter x t half behind b.recs.length).1.held = [headW b] ∧ Disk (j.enter x t half behind b.recs.length).1.safe n j ∧ Body (j.enter x t half behind b.recs.length).1.safe b ∧ (j.enter x t half behind b.recs.length).1.armed = x.armed ∧ (j.enter x t half behind b.recs.length).1.down = x.down) ∧
    ((j.enter x t half behind b.recs.length).2 = false → Crashes (j.enter x t half behind b.recs.length).1 n (fun i => i = j ∨ Under x n j i) ∧ (j.enter x t half behind b.recs.length).1.down = true) := by
  have hs := rest_sound h
  have hcr := body_crash h (t := t) hp
  obtain ⟨c, hc, f1, f2, f3, f4⟩ := put_form x (halfAt j.fr j.se half + behind) (secF t.size) (putS (j.num + 1) t)
  change (j.body x t half behind).1.held = _ at f1
  change (j.body x t half behind).1.safe = _ at f2
  change (j.body x t half behind).2 = true → _ at f3
  change (j.body x t half behind).2 = false → _ at f4
  cases e1 : (j.body x t half behind).2 with
  | false =>
    rw [enter_no1 e1]
    exact ⟨fun h' => (by cases h'), fun _ => ⟨hcr, f4 e1⟩⟩
  | true =>
    obtain ⟨hcm, d1, a1⟩ := f3 e1
    subst hcm
    cases e2 : (j.body x t half behind).1.flsh.2 with
    | false =>
      obtain ⟨g1, g2, g3⟩ := flsh_no e2
      rw [enter_no2 e1 e2]
      exact ⟨fun h' => (by cases h'), fun _ => ⟨crashes_same hcr g1 g2, g3⟩⟩
    | true =>
      obtain ⟨g1, g2, g3, g4⟩ := flsh_yes e2
      rw [enter_yes e1 e2]
      have hseen : (j.body x t half behind).1.seen = putAll x.seen (secL (putS (j.num + 1) t) (halfAt j.fr j.se half + behind) 0 (secF t.size)) := by
        unfold St.seen
        rw [f1, f2, putAll_app]
      have hsz := putS_size (j.num + 1) t
      have hrs := rest_seen h
      have hd2 : Disk (j.body x t half behind).1.flsh.1.safe n j := by
        rw [g1, hseen]
        refine disk_putAll _ _ hrs fun w hw => ?_
        obtain ⟨k, hk, rfl⟩ := secL_mem hw
        exact ⟨spot_free hs hs rfl rfl rfl (Nat.le_refl _) hp (Nat.le_refl _) hk, sec_size (m := secF t.size) (by omega) hk⟩
      obtain ⟨p1, p2, p3⟩ := spot_at hs hp
      have hb2 : Body (j.body x t half behind).1.flsh.1.safe b := by
        intro i hi
        rw [g1, hseen, hg.next.fr, hg.next.se]
        rw [hg.used] at hi
        by_cases hib : i < behind
        · obtain ⟨q1, q2, q3⟩ := hg.old i hib
          rw [q3, q1, putAll_far (fun w hw => ?_)]
          · exact hrs.body i q2
          · obtain ⟨k, hk, rfl⟩ := secL_mem hw
            show halfAt j.fr j.se half + behind + k ≠ _
            rw [← hg.half, q1]
            omega
        · have e : halfAt j.fr j.se b.half + i = halfAt j.fr j.se half + behind + (i - behind) := by rw [hg.half]; omega
          have := hg.new (i - behind) (by omega)
          rw [show behind + (i - behind) = i by omega] at this
          rw [e, this]
          exact put_there _ (by rw [hrs.len]; omega) _ (by omega)
      have hhd : j.head (j.body x t half behind).1.flsh.1 half b.recs.length = (j.body x t half behind).1.flsh.1.put (headW b).1 (headW b).2 1 := by
        unfold Jn.head headW
        rw [hg.next.fr, hg.next.se, hg.next.num, hg.half]
      rw [hhd]
      obtain ⟨c, hc, k1, k2, k3, k4⟩ := put_form (j.body x t half behind).1.flsh.1 (headW b).1 1 (headW b).2
      refine ⟨fun h' => ?_, fun h' => ?_⟩
      · obtain ⟨hc1, m1, m2⟩ := k3 h'
        subst hc1
        refine ⟨?_, by rw [k2]; exact hd2, by rw [k2]; exact hb2, (m2.trans g4).trans a1, (m1.trans g3).trans d1⟩
        rw [k1, g2, List.nil_append, secL_succ]
        show [((headW b).1 + 0, sec (headW b).2 0)] = [headW b]
        rw [show sec (headW b).2 0 = (headW b).2 from sec_whole (hd_size ..)]
        rfl
      · obtain ⟨k5, k6⟩ := put1_no h'
        refine ⟨fun keep => ⟨j, .inl rfl, ?_⟩, k4 h'⟩
        show Disk (tearN _ _ keep _) n j
        rw [k5, k6, g2]
        exact hd2
theorem more_used {j : Jn} {t : ByteArray} (hu : j.used = usedS (j.base :: j.recs)) : (j.more t).used = usedS ((j.more t).base :: (j.more t).recs) := by
  show j.used + secF t.size = usedS (j.base :: (j.recs ++ [t]))
  rw [← List.cons_append, usedS_snoc, hu]
theorem more_frames {j : Jn} {t : ByteArray} (hn : j.recs.length < j.num) : framesS ((j.more t).num - (j.more t).recs.length) ((j.more t).base :: (j.more t).recs) = framesS (j.num - j.recs.length) (j.base :: j.recs) ++ putS (j.num + 1) t := by
  show framesS (j.num + 1 - (j.recs ++ [t]).length) (j.base :: (j.recs ++ [t])) = _
  rw [← List.cons_append, framesS_snoc, List.length_append, List.length_singleton, List.length_cons]
  rw [show j.num + 1 - (j.recs.length + 1) = j.num - j.recs.length by omega, show j.num - j.recs.length + (j.recs.length + 1) = j.num + 1 by omega]
theorem more_sound {j : Jn} {n : Nat} {t : ByteArray} (h : Sound j n) (ht : t.size ≤ 65536) (hr : j.used + secF t.size ≤ j.size) (hf : j.num + 1 < 100000000000) : Sound (j.more t) n := by
  have h1 : 1 ≤ secF t.size := by unfold secF; omega
  have hl := h.fits.recs
  refine ⟨⟨h.fits.se, h.fits.fr, h.fits.half, hr, ?_⟩, more_used h.used, fun s hs => ?_, ?_, hf, h.most⟩
  · show (j.recs ++ [t]).length ≤ j.used + secF t.size
    rw [List.length_append, List.length_singleton]; omega
  · rcases List.mem_cons.1 hs with rfl | hs
    · exact h.long _ (List.mem_cons_self ..)
    · rcases List.mem_append.1 hs with hs | hs
      · exact h.long s (List.mem_cons_of_mem _ hs)
      · rw [List.mem_singleton.1 hs]; exact ht
  · show (j.recs ++ [t]).length < j.num + 1
    have := h.num
    rw [List.length_append, List.length_singleton]; omega
theorem more_grows {j : Jn} {n : Nat} {t : ByteArray} (h : Sound j n) : Grows j (j.more t) t j.half j.used := by
  have hz : (framesS (j.num - j.recs.length) (j.base :: j.recs)).size = 512 * j.used := by rw [framesS_size, h.used]
  refine ⟨⟨rfl, rfl, rfl⟩, rfl, (more_used h.used).symm, fun i hi => ⟨rfl, by rw [← h.used]; exact hi, ?_⟩, fun i hi => ?_⟩
  · rw [more_frames h.num]; exact sec_left hz hi
  · rw [more_frames h.num, sec_right hz (by omega)]
    congr 1
    omega
theorem swap_sound {j : Jn} {n : Nat} {t : ByteArray} (h : Sound j n) (ht : t.size ≤ 65536) (hr : secF t.size ≤ j.size) (hf : j.num + 1 < 100000000000) : Sound (j.swap t) n :=
  ⟨⟨h.fits.se, h.fits.fr, by show 1 - j.half ≤ 1; omega, hr, Nat.zero_le _⟩, by show secF t.size = usedS [t]; rw [usedS_cons, usedS_nil]; rfl, fun s hs => by rw [List.mem_singleton.1 hs]; exact ht, by show 0 < j.num + 1; omega, hf, h.most⟩
theorem swap_grows {j : Jn} {t : ByteArray} : Grows j (j.swap t) t (1 - j.half) 0 := by
  refine ⟨⟨rfl, rfl, rfl⟩, rfl, by show usedS [t] = 0 + secF t.size; rw [usedS_cons, usedS_nil]; omega, fun i hi => absurd hi (Nat.not_lt_zero _), fun i hi => ?_⟩
  show sec (framesS (j.num + 1 - 0) [t]) (0 + i) = _
  rw [Nat.zero_add, Nat.sub_zero]
  show sec (putS (j.num + 1) t ++ ⟨#[]⟩) i = _
  exact sec_left (putS_size _ _) hi
/-- Append, done: at rest, the former state beneath; cut off: a state of before. -/
theorem append_math {x : St} {n : Nat} {j : Jn} (h : Rest x n j) {t : ByteArray} (ht : t.size ≤ 65536) (hr : j.used + secF t.size ≤ j.size) (hf : j.num + 1 < 100000000000) :
    ((j.enter x t j.half j.used (j.recs.length + 1)).2 = true → Rest (j.enter x t j.half j.used (j.recs.length + 1)).1 n (j.more t) ∧ Under (j.enter x t j.half j.used (j.recs.length + 1)).1 n (j.more t) j ∧ (∀ a, Under (j.enter x t j.half j.used (j.recs.length + 1)).1 n (j.more t) a → a = j ∨ a.num = j.num) ∧ (j.enter x t j.half j.used (j.recs.length + 1)).1.armed = x.armed ∧ (j.enter x t j.half j.used (j.recs.length + 1)).1.down = x.down) ∧
    ((j.enter x t j.half j.used (j.recs.length + 1)).2 = false → Crashes (j.enter x t j.half j.used (j.recs.length + 1)).1 n (fun i => i = j ∨ Under x n j i) ∧ (j.enter x t j.half j.used (j.recs.length + 1)).1.down = true) := by
  have hs := rest_sound h
  have key := enter_math h (t := t) (half := j.half) (behind := j.used) ⟨hs.fits.half, hr, .inr (Nat.le_refl _)⟩ (more_grows hs)
  rw [show (j.more t).recs.length = j.recs.length + 1 by show (j.recs ++ [t]).length = _; rw [List.length_append]; rfl] at key
  refine ⟨fun h' => ?_, key.2⟩
  obtain ⟨k1, k2, k3, k4, k5⟩ := key.1 h'
  have hu : Under (j.enter x t j.half j.used (j.recs.length + 1)).1 n (j.more t) j := ⟨k1, k2, k3, ⟨⟨rfl, rfl, rfl⟩, hs, more_sound hs ht hr hf⟩, rfl, Nat.le_add_right _ _⟩
  exact ⟨.inr ⟨j, hu⟩, hu, fun a ha => .inr (by have := ha.2.2.2.1.next.num; have e : (j.more t).num = j.num + 1 := rfl; omega), k4, k5⟩
/-- Checkpoint, done: at rest, nothing is held back; cut off: a state of before, or the new one. -/
theorem check_math {x : St} {n : Nat} {j : Jn} (h : Rest x n j) {t : ByteArray} (ht : t.size ≤ 65536) (hr : secF t.size ≤ j.size) (hf : j.num + 1 < 100000000000) :
    ((j.check x t).2 = true → (j.check x t).1.held = [] ∧ Disk (j.check x t).1.safe n (j.swap t) ∧ (j.check x t).1.armed = x.armed ∧ (j.check x t).1.down = x.down) ∧
    ((j.check x t).2 = false → Crashes (j.check x t).1 n (fun i => i = j ∨ Under x n j i ∨ i = j.swap t) ∧ (j.check x t).1.down = true) := by
  have hs := rest_sound h
  have hh := hs.fits.half
  have key := enter_math h (t := t) (half := 1 - j.half) (behind := 0) (b := j.swap t) ⟨by omega, by omega, .inl (by omega)⟩ swap_grows
  change ((j.enter x t (1 - j.half) 0 0).2 = true → _) ∧ _ at key
  have hp : Pair j (j.swap t) n := ⟨⟨rfl, rfl, rfl⟩, hs, swap_sound hs ht hr hf⟩
  unfold Jn.check
  cases e1 : (j.enter x t (1 - j.half) 0 0).2 with
  | false =>
    rw [if_neg (by simp)]
    refine ⟨fun h' => (by rw [e1] at h'; cases h'), fun _ => ?_⟩
    obtain ⟨c1, c2⟩ := key.2 e1
    exact ⟨fun keep => by obtain ⟨i, hi, hd⟩ := c1 keep; exact ⟨i, hi.elim .inl (fun h => .inr (.inl h)), hd⟩, c2⟩
  | true =>
    rw [if_pos rfl]
    obtain ⟨k1, k2, k3, k4, k5⟩ := key.1 e1
    refine ⟨fun h' => ?_, fun h' => ?_⟩
    · obtain ⟨g1, g2, g3, g4⟩ := flsh_yes h'
      refine ⟨g2, ?_, g4.trans k4, g3.trans k5⟩
      rw [g1]
      have k1' : (j.enter x t (1 - j.half) 0 0).1.held = [headW (j.swap t)] := k1
      unfold St.seen putAll
      rw [k1']
      exact disk_next k2 hp.next hp.sb k3
    · obtain ⟨g1, g2, g3⟩ := flsh_no h'
      refine ⟨fun keep => ?_, g3⟩
      show ∃ i, _ ∧ Disk (tearN _ _ keep _) n i
      rw [g1, g2]
      have hh : ∀ w ∈ (j.enter x t (1 - j.half) 0 0).1.held, Fit2 j (j.swap t) w := fun w hw => by
        have k1' : (j.enter x t (1 - j.half) 0 0).1.held = [headW (j.swap t)] := k1
        rw [k1'] at hw
        exact .inr (List.mem_singleton.1 hw)
      rcases two_tear hp (.inl ⟨k2, k3⟩) hh keep (j.enter x t (1 - j.half) 0 0).1.held.length with ⟨h3, _⟩ | h3
      · exact ⟨j, .inl rfl, h3⟩
      · exact ⟨_, .inr (.inr rfl), h3⟩
theorem free_wr (i : Nat) (s : ByteArray) : ∀ (m k : Nat) (x : St), x.armed = false → (x.wr i s k m).2 = true
  | 0, _, _, _ => rfl
  | m + 1, k, x, h => by
    rw [wr_go (due_no h)]
    exact free_wr i s m (k + 1) _ h
theorem free_put {x : St} (ha : x.armed = false) (hd : x.down = false) (i m : Nat) (s : ByteArray) : (x.put i s m).2 = true ∧ (x.put i s m).1.armed = false ∧ (x.put i s m).1.down = false := by
  have h1 : (x.put i s m).2 = true := by
    unfold St.put
    rw [if_neg (by simp [hd])]
    exact free_wr i s m 0 x ha
  obtain ⟨c, _, _, _, h2, _⟩ := put_form x i m s
  obtain ⟨_, h3, h4⟩ := h2 h1
  exact ⟨h1, h4.trans ha, h3.trans hd⟩
theorem free_flsh {x : St} (ha : x.armed = false) (hd : x.down = false) : x.flsh.2 = true ∧ x.flsh.1.armed = false ∧ x.flsh.1.down = false := by
  have h1 : x.flsh.2 = true := by
    unfold St.flsh
    rw [if_neg (by simp [hd]), if_neg (by rw [due_no ha]; simp)]
  obtain ⟨_, _, h3, h4⟩ := flsh_yes h1
  exact ⟨h1, h4.trans ha, h3.trans hd⟩
theorem free_enter {x : St} (ha : x.armed = false) (hd : x.down = false) (j : Jn) (t : ByteArray) (half behind recs : Nat) : (j.enter x t half behind recs).2 = true ∧ (j.enter x t half behind recs).1.armed = false ∧ (j.enter x t half behind recs).1.down = false := by
  obtain ⟨b1, b2, b3⟩ := free_put ha hd (halfAt j.fr j.se half + behind) (secF t.size) (putS (j.num + 1) t)
  obtain ⟨f1, f2, f3⟩ := free_flsh b2 b3
  rw [enter_yes (j := j) (x := x) (t := t) (half := half) (behind := behind) b1 f1]
  exact free_put f2 f3 _ _ _
theorem free_check {x : St} (ha : x.armed = false) (hd : x.down = false) (j : Jn) (t : ByteArray) : (j.check x t).2 = true ∧ (j.check x t).1.armed = false ∧ (j.check x t).1.down = false := by
  obtain ⟨e1, e2, e3⟩ := free_enter ha hd j t (1 - j.half) 0 0
  unfold Jn.check
  rw [if_pos e1]
  exact free_flsh e2 e3
theorem check_parts {j : Jn} {x : St} {t : ByteArray} (h : (j.check x t).2 = true) : (j.enter x t (1 - j.half) 0 0).2 = true ∧ (j.enter x t (1 - j.half) 0 0).1.flsh.2 = true ∧ (j.check x t) = (j.enter x t (1 - j.half) 0 0).1.flsh := by
  unfold Jn.check at h ⊢
  cases e : (j.enter x t (1 - j.half) 0 0).2 with
  | false => rw [e, if_neg (by simp)] at h; rw [e] at h; cases h
  | true => rw [e, if_pos rfl] at h; exact ⟨rfl, h, by rw [if_pos rfl]⟩
theorem enter_parts {j : Jn} {x : St} {t : ByteArray} {half behind recs : Nat} (h : (j.enter x t half behind recs).2 = true) :
    (j.body x t half behind).2 = true ∧ (j.body x t half behind).1.flsh.2 = true ∧ (j.head (j.body x t half behind).1.flsh.1 half recs).2 = true ∧ j.enter x t half behind recs = j.head (j.body x t half behind).1.flsh.1 half recs := by
  cases e1 : (j.body x t half behind).2 with
  | false => rw [enter_no1 e1] at h; cases h
  | true =>
    cases e2 : (j.body x t half behind).1.flsh.2 with
    | false => rw [enter_no2 e1 e2] at h; cases h
    | true => rw [enter_yes e1 e2] at h ⊢; exact ⟨rfl, rfl, h, rfl⟩
theorem zero4_sec {i : Nat} (h : i < 4) : sec zero4 i = ⟨Array.replicate 512 0⟩ := by
  have hz : ∀ k m, byt ⟨Array.replicate m 0⟩ k = 0 := fun k m => by
    unfold byt
    rw [List.getD_eq_getElem?_getD]
    simp only [Array.toList_replicate, List.getElem?_replicate]
    split <;> rfl
  have hs : (sec zero4 i).size = 512 := sec_size (m := 4) (by rw [zero4_size]) h
  refine bytes_of (by rw [hs]; exact Array.size_replicate.symm) fun k hk => ?_
  rw [hs] at hk
  unfold sec
  rw [byt_ext _ _ _ _ (by omega), zero4_is, hz, hz]
/-- Format, done. -/
theorem format_math {x : St} {n fr se : Nat} {t : ByteArray} (hx : x.Good n) (h8 : 8 ≤ se) (hn : fr + se ≤ n) (ht : t.size ≤ 65536) (hr : secF t.size ≤ hsz se) (hz : (x.put fr zero4 4).2 = true) (hc : ((Jn.blank fr se).check (x.put fr zero4 4).1 t).2 = true) :
    ((Jn.blank fr se).check (x.put fr zero4 4).1 t).1.held = [] ∧ Disk ((Jn.blank fr se).check (x.put fr zero4 4).1 t).1.safe n ((Jn.blank fr se).swap t) ∧ ((Jn.blank fr se).check (x.put fr zero4 4).1 t).1.armed = x.armed ∧ ((Jn.blank fr se).check (x.put fr zero4 4).1 t).1.down = x.down := by
  obtain ⟨c1, c2, c3⟩ := check_parts hc
  obtain ⟨e1, e2, e3, e4⟩ := enter_parts c1
  rw [c3]
  obtain ⟨g1, g2, g3, g4⟩ := flsh_yes c2
  obtain ⟨ca, _, p1, p2, p3, _⟩ := put_form x fr 4 zero4
  obtain ⟨hca, p4, p5⟩ := p3 hz
  subst hca
  obtain ⟨cb, _, q1, q2, q3, _⟩ := put_form (x.put fr zero4 4).1 (halfAt fr se 1 + 0) (secF t.size) (putS 1 t)
  change ((Jn.blank fr se).body (x.put fr zero4 4).1 t 1 0).1.held = _ at q1
  change ((Jn.blank fr se).body (x.put fr zero4 4).1 t 1 0).1.safe = _ at q2
  change ((Jn.blank fr se).body (x.put fr zero4 4).1 t 1 0).2 = true → _ ∧ ((Jn.blank fr se).body (x.put fr zero4 4).1 t 1 0).1.down = _ ∧ ((Jn.blank fr se).body (x.put fr zero4 4).1 t 1 0).1.armed = _ at q3
  obtain ⟨hcb, q4, q5⟩ := q3 e1
  subst hcb
  change ((Jn.blank fr se).body (x.put fr zero4 4).1 t 1 0).1.flsh.2 = true at e2
  obtain ⟨r1, r2, r3, r4⟩ := flsh_yes e2
  obtain ⟨L, hL⟩ : ∃ L, L = ((Jn.blank fr se).body (x.put fr zero4 4).1 t 1 0).1.flsh.1.safe := ⟨_, rfl⟩
  have hhd : (Jn.blank fr se).head ((Jn.blank fr se).body (x.put fr zero4 4).1 t 1 0).1.flsh.1 1 0 = ((Jn.blank fr se).body (x.put fr zero4 4).1 t 1 0).1.flsh.1.put (headW ((Jn.blank fr se).swap t)).1 (headW ((Jn.blank fr se).swap t)).2 1 := rfl
  change ((Jn.blank fr se).head ((Jn.blank fr se).body (x.put fr zero4 4).1 t 1 0).1.flsh.1 1 0).2 = true at e3
  change (Jn.blank fr se).enter (x.put fr zero4 4).1 t (1 - 0) 0 0 = (Jn.blank fr se).head ((Jn.blank fr se).body (x.put fr zero4 4).1 t 1 0).1.flsh.1 1 0 at e4
  rw [hhd] at e3 e4
  obtain ⟨cc, _, s1, s2, s3, _⟩ := put_form ((Jn.blank fr se).body (x.put fr zero4 4).1 t 1 0).1.flsh.1 (headW ((Jn.blank fr se).swap t)).1 1 (headW ((Jn.blank fr se).swap t)).2
  obtain ⟨hcc, s4, s5⟩ := s3 e3
  subst hcc
  have hm := hx.most
  have hzz : hsz se = (se - 4) / 2 := rfl
  have hseen : L = putAll (putAll x.seen (secL zero4 fr 0 4)) (secL (putS 1 t) (halfAt fr se 1 + 0) 0 (secF t.size)) := by
    rw [hL, r1]
    unfold St.seen
    rw [q1, q2, p1, p2, putAll_app, putAll_app]
  have hxl : x.seen.length = n := (seen_length x).trans hx.size
  have hha : halfAt fr se 1 = fr + 4 + hsz se := by unfold halfAt; omega
  have hpz := putS_size 1 t
  have hLl : L.length = n := by rw [hseen, putAll_length, putAll_length, hxl]
  have hLs : ∀ s ∈ L, s.size = 512 := by
    rw [hseen]
    refine putAll_secs (putAll_secs (seen_secs hx) fun w hw => ?_) fun w hw => ?_
    · obtain ⟨k, hk, rfl⟩ := secL_mem hw
      exact sec_size (m := 4) (by rw [zero4_size]) hk
    · obtain ⟨k, hk, rfl⟩ := secL_mem hw
      exact sec_size (m := secF t.size) (by omega) hk
  have hzero : ∀ i, i < 4 → L[fr + i]? = some ⟨Array.replicate 512 0⟩ := fun i hi => by
    rw [hseen, putAll_far (fun w hw => ?_)]
    · rw [put_there 4 (by rw [hxl]; omega) i hi, zero4_sec hi]
    · obtain ⟨k, hk, rfl⟩ := secL_mem hw
      show halfAt fr se 1 + 0 + k ≠ fr + i
      omega
  have hbody : ∀ i, i < secF t.size → L[halfAt fr se 1 + i]? = some (sec (putS 1 t) i) := fun i hi => by
    rw [hseen]
    exact put_there (i := halfAt fr se 1 + 0) _ (by rw [putAll_length, hxl]; omega) i hi
  have hsnd : Sound ((Jn.blank fr se).swap t) n :=
    ⟨⟨h8, hn, Nat.le_refl 1, hr, Nat.zero_le _⟩, by show secF t.size = usedS [t]; rw [usedS_cons, usedS_nil]; rfl, fun s hs => by rw [List.mem_singleton.1 hs]; exact ht, Nat.zero_lt_one, by show 0 + 1 < _; omega, hm⟩
  have hdisk : Disk (L.set (headW ((Jn.blank fr se).swap t)).1 (headW ((Jn.blank fr se).swap t)).2) n ((Jn.blank fr se).swap t) := by
    have hslot : (headW ((Jn.blank fr se).swap t)).1 = fr + 1 := rfl
    rw [hslot]
    refine ⟨hsnd, by rw [List.length_set]; exact hLl, fun s hs => (mem_set hs).elim (hLs s) (fun e => by rw [e]; exact hd_size ..), ?_, fun i h1 h3 => ?_, fun i hi => ?_⟩
    · show (L.set (fr + 1) _)[fr + 1]? = _
      rw [List.getElem?_set_self (by omega)]
      rfl
    · refine ⟨⟨Array.replicate 512 0⟩, ?_, old_zero (by show 1 ≤ 1 + i; omega) (by show 1 + i ≤ 4; omega)⟩
      show (L.set (fr + 1) _)[fr + (1 + i) % 4]? = _
      rw [List.getElem?_set_ne (by omega)]
      exact hzero _ (by omega)
    · have hi' : i < secF t.size := by
        have : usedS [t] = secF t.size := by rw [usedS_cons, usedS_nil]; rfl
        rw [← this]
        exact hi
      show (L.set (fr + 1) _)[halfAt fr se 1 + i]? = some (sec (putS 1 t ++ ⟨#[]⟩) i)
      rw [List.getElem?_set_ne (by omega), sec_left hpz hi']
      exact hbody i hi'
  refine ⟨g2, ?_, ?_, ?_⟩
  · rw [g1]
    change Disk (((Jn.blank fr se).enter (x.put fr zero4 4).1 t (1 - 0) 0 0).1.seen) n _
    rw [e4]
    unfold St.seen putAll
    rw [s1, s2, r2, ← hL, List.nil_append, secL_succ]
    show Disk (L.set ((headW ((Jn.blank fr se).swap t)).1 + 0) (sec (headW ((Jn.blank fr se).swap t)).2 0)) n _
    rw [show sec (headW ((Jn.blank fr se).swap t)).2 0 = (headW ((Jn.blank fr se).swap t)).2 from sec_whole (hd_size ..)]
    exact hdisk
  · refine g4.trans ?_
    change ((Jn.blank fr se).enter (x.put fr zero4 4).1 t (1 - 0) 0 0).1.armed = _
    rw [e4, s5, r4, q5, p5]
  · refine g3.trans ?_
    change ((Jn.blank fr se).enter (x.put fr zero4 4).1 t (1 - 0) 0 0).1.down = _
    rw [e4, s4, r3, q4, p4]
/-- A journal is opened where a state stands. -/
theorem read_is {j : Jn} {n : Nat} (h : Sound j n) (hu : j.unfit = false) : Jn.read j.fr j.se (j.num - j.recs.length + j.recs.length) j.half j.base j.recs = j := by
  have h1 := h.num
  have h2 := h.used
  rw [show j.num - j.recs.length + j.recs.length = j.num by omega]
  cases j
  simp only at hu h2 ⊢
  unfold Jn.read
  rw [hu, h2]
theorem open_disk (w : World) {F : Nat → Prop} {p n : Nat} {x : St} (h : Dv w F p n x) (ht : Tab w) (hF : ¬ F gTab) (hd : x.down = false) {j : Jn} (hk : Disk x.seen n j) (hu : j.unfit = false) (ho : x.ops ≤ 100000000000) (hfl : x.flsh.2 = true) :
    Calls Tryz.prog 76 #[.pointer (some ⟨p, 0, none⟩), .int .i64 (j.fr : Int), .int .i64 (j.se : Int)] w (MadeJn F w p n x.flsh.1 j) := by
  obtain ⟨r, hr⟩ := disk_cat hk
  have hs := hk.sound
  have h1 := hs.num
  have h2 := hs.few
  have key := open_ok w h ht hF j.fr j.se hs.fits.se hs.fits.fr hd (j.num - j.recs.length) j.half hs.fits.half j.base j.recs r (by rw [disk_best hk, show j.num - j.recs.length + j.recs.length = j.num by omega]) (by omega) hr hs.long (by omega) (by rw [← hs.used]; exact hs.fits.used) ho hfl
  rw [read_is hs hu] at key
  exact key
end Go.Proofs.YtglfjlbhjaemgaaGreatDoor
