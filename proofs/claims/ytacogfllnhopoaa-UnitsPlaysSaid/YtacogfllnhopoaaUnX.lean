/- The document's Hosts; two lists of texts that are alike. -/
import Derived.Test.YtacogfllnhopoaaUnW
namespace Go.Proofs.Ytacogfllnhopoaa
open Go.RowKit Go.Maps
/-- The hosts of the first k that have something at lu. -/
def hostsL (lu : Int) (l : List Wt) : List ByteArray := (l.filter (fun x => decide (x.lu = lu ∧ x.zs ≠ []))).map Wt.ho
theorem hostsL_of {l : List Wt} (hg : GoodL l) (lu : Int) : HostsOf (fq l) lu (hostsL lu l) := by
  refine ⟨?_, ?_, fun h => ?_⟩
  · unfold hostsL
    rw [List.pairwise_map]
    exact hg.asc.filter _
  · unfold hostsL
    rw [List.nodup_iff_pairwise_ne, List.pairwise_map]
    have h1 := hg.once.filter (fun x => decide (x.lu = lu ∧ x.zs ≠ []))
    refine List.Pairwise.imp_of_mem ?_ h1
    intro a b ha hb hn he
    have h2 := (List.mem_filter.1 ha).2
    have h3 := (List.mem_filter.1 hb).2
    simp at h2 h3
    exact hn ⟨h2.1.trans h3.1.symm, he⟩
  · unfold hostsL
    rw [List.mem_map]
    constructor
    · rintro ⟨x, hx, rfl⟩
      obtain ⟨h1, h2⟩ := List.mem_filter.1 hx
      simp at h2
      have := fq_found hg.once h1
      rw [h2.1] at this
      rw [this]
      exact h2.2
    · intro hn
      rcases fq_cases hg.once lu h with ⟨x, hx, hi, e⟩ | ⟨_, e⟩
      · exact ⟨x, List.mem_filter.2 ⟨hx, by rw [e] at hn; simp [hi.1, hn]⟩, hi.2⟩
      · exact absurd e hn
theorem hostsL_snoc (lu : Int) (l : List Wt) (k : Nat) (x : Wt) (hx : l[k]? = some x) : hostsL lu (l.take (k + 1)) = hostsL lu (l.take k) ++ (if x.lu = lu ∧ x.zs ≠ [] then [x.ho] else []) := by
  obtain ⟨hk, e⟩ := List.getElem?_eq_some_iff.1 hx
  unfold hostsL
  rw [List.take_add_one, hx, List.filter_append, List.map_append]
  congr 1
  by_cases h : x.lu = lu ∧ x.zs ≠ []
  · rw [if_pos h]; simp [h]
  · rw [if_neg h]
    simp
    intro a
    exact Classical.byContradiction fun b => h ⟨a, b⟩
theorem hostsL_le (lu : Int) (l : List Wt) (k : Nat) : (hostsL lu (l.take k)).length ≤ l.length := by
  unfold hostsL
  rw [List.length_map]
  exact Nat.le_trans (List.length_filter_le _ _) (by rw [List.length_take]; omega)
set_option maxHeartbeats 1000000 in
theorem rhosts_any (w : World) {G : Nat → Prop} {p : Nat} {l : List Wt} (h : Rq w G p l) (lu : Int) (hl : l.length ≤ 1000000) :
    Calls Try.prog 18 #[.pointer (some ⟨p, 0, none⟩), .int .i64 lu] w fun e w' => ∃ A c, e = .returned (.slice A (hostsL lu l).length c) ∧ Below w.heap.size w w' ∧ w'.ownsRow w.heap.size 9 1 (.slice A (hostsL lu l).length c) (hostsL lu l).length ((hostsL lu l).map .string) := by
  have HQ := Lib.hid h; have HL := Lib.hid hl
  obtain ⟨i0, hi0, hz0, hz1, hz2⟩ := info_parts infoStr
  obtain ⟨A, c, hp, hr⟩ := h.row
  have HR := Lib.hid hr; have HP := Lib.hid hp
  clear h hl hp hr
  go_enter Try.func18, Try.ntmps18
  go_wp2
  go_loopw [5, 6] (fun v i wr => ∃ (k : Nat) (B : Option Addr) (d n : Nat), v = .slice B n d ∧ i = .int .i64 (k : Int) ∧ Hid (k ≤ l.length ∧ n = (hostsL lu (l.take k)).length ∧ Below w.heap.size w wr ∧ wr.ownsRow w.heap.size 9 1 (.slice B n d) n ((hostsL lu (l.take k)).map .string))) (fun _ i _ => l.length - (intOf i).toNat)
  case atStart => exact ⟨0, none, 0, 0, rfl, rfl, Lib.hid ⟨by omega, rfl, Below.refl _ _, ⟨rfl, .inl ⟨rfl, rfl⟩⟩⟩⟩
  case round =>
    obtain ⟨k, B, d, n, rfl, rfl, HI⟩ := hrel
    have HPL := Lib.hid (show p < w.heap.size from World.block_lt_of_cell? w ⟨p, 0, none⟩ HP)
    have hp1 : wr.cell? ⟨p, 0, none⟩ = some (.slice A l.length c) := (World.cell?_of_block (HI.out.2.2.1.block p HPL)).trans HP
    by_cases hlt : k < l.length
    · have hki : (k : Int) < (l.length : Int) := by omega
      obtain ⟨x, hx⟩ : ∃ x, l[k]? = some x := ⟨_, List.getElem?_eq_getElem hlt⟩
      obtain ⟨g, rfl, _, c0, c1, c2, _, _⟩ := HR k x hx
      have hb := HI.out.2.2.1
      have hgl := World.block_lt_of_cell? w _ c0
      have d0 := (World.cell?_of_block (a := ⟨g, k * 3, none⟩) (hb.block g hgl)).trans c0
      have d1 := (World.cell?_of_block (a := ⟨g, k * 3 + 1, none⟩) (hb.block g hgl)).trans c1
      have d2 := (World.cell?_of_block (a := ⟨g, k * 3 + 2, none⟩) (hb.block g hgl)).trans c2
      have hwr : IntKind.i64.wrap ((k : Int) + 1) = (k : Int) + 1 := IntWalk.i64_in _ (by have := HL.out; omega)
      have HSN := Lib.hid (hostsL_snoc lu l k x hx); have HK := Lib.hid hlt
      obtain ⟨z, hz⟩ : ∃ z, z = x.zs.length := ⟨_, rfl⟩
      rw [← hz] at d2
      clear hx hlt c0 c1 c2 hb hgl
      by_cases h1 : x.lu = lu
      · have e1 : (x.lu == lu) = true := by simpa using h1
        by_cases h2 : x.zs = []
        · have HS1 := Lib.hid (show hostsL lu (l.take (k + 1)) = hostsL lu (l.take k) by rw [HSN.out, if_neg (fun hh => hh.2 h2), List.append_nil])
          have hz0' : z = 0 := by rw [hz, h2]; rfl
          subst hz0'
          clear h1 h2 hz
          go_wp2
          go_roundw
          case rel => exact ⟨k + 1, B, d, n, rfl, by go_num, Lib.hid ⟨HK, by rw [HS1.out]; exact HI.out.2.1, HI.out.2.2.1, by rw [HS1.out]; exact HI.out.2.2.2⟩⟩
          case measure => simp [intOf]; have := HK.out; omega
        · have HS1 := Lib.hid (show hostsL lu (l.take (k + 1)) = hostsL lu (l.take k) ++ [x.ho] by rw [HSN.out, if_pos ⟨h1, h2⟩])
          have hzp : (0 : Int) < (z : Int) := by rw [hz]; have := List.length_pos_iff.2 h2; omega
          have HX := Lib.hid (cell_one_new wr (.string x.ho) 9)
          have HR5 := Lib.hid (show (wr.alloc (.cells #[.string x.ho] 9)).ownsRow w.heap.size 9 1 (.slice B n d) n ((hostsL lu (l.take k)).map .string) from own_keep HI.out.2.2.2 (fun j hj => Below.heap_alloc _ _ j (HI.out.2.2.2.lt j hj).2))
          have HBZ := Lib.hid (show w.heap.size ≤ (wr.alloc (.cells #[.string x.ho] 9)).heap.size from by have := HI.out.2.2.1.size; simp; omega)
          have HN : Hid (n ≤ 1000000) := by have h := hostsL_le lu l k; have := HI.out.2.1; have := HL.out; show n ≤ 1000000; omega
          have HL1 := Lib.hid (show n + 1 ≤ maxLen by have := HN.out; unfold maxLen; omega)
          have HL2 := Lib.hid (show (n + 1) * 16 ≤ 140737488355328 by have := HN.out; omega)
          clear h1 h2 hz
          go_wp2_with (at_builtin; refine wpList_append_lies _ rfl (.tmp 38) (.tmp 47) 37 rfl w.heap.size 9 i0 _ 1 16 Try.underlying37 hi0 hz0 hz1 hz2 rfl (by omega) (.slice B n d) n ((hostsL lu (l.take k)).map .string) rfl HR5.out ⟨wr.heap.size, 0, none⟩ 1 1 [.string x.ho] rfl rfl HX.out (fun u hu => by rw [List.mem_singleton.1 hu]; rfl) (by omega) HL1.out HL2.out HBZ.out _ rfl ?_; intro g5 cap w5 hown hgr hge hglt; have HOW := Lib.hid hown; have HGR := Lib.hid hgr; clear hown hgr hge hglt)
          go_roundw
          case rel => exact ⟨k + 1, some ⟨g5, 0, none⟩, cap, n + 1, rfl, by go_num, Lib.hid ⟨HK, by rw [HS1.out, List.length_append, List.length_singleton, ← HI.out.2.1], (HI.out.2.2.1.alloc HI.out.2.2.1.size _).grown HGR.out HBZ.out (fun j hj => (HR5.out.lt j hj).1), by rw [HS1.out, List.map_append]; exact HOW⟩⟩
          case measure => simp [intOf]; have := HK.out; omega
      · have e1 : (x.lu == lu) = false := by simpa using h1
        have HS1 := Lib.hid (show hostsL lu (l.take (k + 1)) = hostsL lu (l.take k) by rw [HSN.out, if_neg (fun hh => h1 hh.1), List.append_nil])
        clear h1 hz
        go_wp2
        go_roundw
        case rel => exact ⟨k + 1, B, d, n, rfl, by go_num, Lib.hid ⟨HK, by rw [HS1.out]; exact HI.out.2.1, HI.out.2.2.1, by rw [HS1.out]; exact HI.out.2.2.2⟩⟩
        case measure => simp [intOf]; have := HK.out; omega
    · have hkk : k = l.length := by have := HI.out.1; omega
      subst hkk
      go_wp2
      go_ret
      obtain ⟨_, h2, h3, h4⟩ := HI.out
      rw [List.take_length] at h2 h4
      subst h2
      exact ⟨B, d, rfl, h3, h4⟩
end Go.Proofs.Ytacogfllnhopoaa
