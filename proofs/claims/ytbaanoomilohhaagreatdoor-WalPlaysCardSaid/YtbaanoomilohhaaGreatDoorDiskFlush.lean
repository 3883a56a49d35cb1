/-
  A disk's Flush. No statement is proved here.
-/
import Derived.Test.YtbaanoomilohhaaGreatDoorDiskCalls
namespace Go.Proofs.YtbaanoomilohhaaGreatDoor
open Go.RowKit

/-- The disk behind a flush. -/
theorem flush_is {w w2 : World} {g gn gs cn cs : Nat} {vd vk : Value} {S : DS} (h : DiskIs w g gn gs cn cs vd vk S) (hk : Keep [gs] w w2)
    (hs : w2.ownsRow 0 9 1 (.slice (some ⟨gs, 0, none⟩) S.safe.length cs) S.safe.length ((setAll S.safe S.dirty).map Value.string)) :
    DiskIs (w2.setCell ⟨g, 2, none⟩ (.slice none 0 0)) g gn gs cn cs (.slice none 0 0) vk { S with safe := setAll S.safe S.dirty, dirty := [] } := by
  have ha := h.apart
  simp only [List.nodup_cons, List.mem_cons, List.mem_append, not_or] at ha
  have l1 : (setAll S.safe S.dirty).length = S.safe.length := setAll_length _ _
  have hb : Blk w2 g 59 #[.slice (some ⟨gn, 0, none⟩) S.now.length cn, .slice (some ⟨gs, 0, none⟩) S.safe.length cs, vd, .bool S.on, .int .i64 (S.writes : Int), .bool S.armed, .int .i64 (S.left : Int), vk] :=
    (hk.block g h.blk.lt (by simp; exact ha.1.2.1)).trans h.blk
  refine ⟨?_, row_far (row_keep h.now hk ?_) ?_ _, ?_, World.ownsRow_nil _ _ _ _, row_far (row_keep h.keep hk ?_) ?_ _, ?_⟩
  · have := hb.put 2 (.slice none 0 0)
    rw [← l1] at this
    exact this
  · intro k e hm; cases e; exact ha.2.1.1 (List.mem_singleton.1 hm)
  · intro e; cases e; exact ha.1.1 rfl
  · rw [← l1] at hs
    exact row_far hs (by intro e; cases e; exact ha.1.2.1 rfl) _
  · intro k e hm; exact ha.2.2.1.2 (by rw [e, ← List.mem_singleton.1 hm]; simp)
  · intro e; exact ha.1.2.2.2 (by simp [e])
  · refine List.Nodup.sublist ?_ h.apart
    refine List.Sublist.cons_cons _ (List.Sublist.cons_cons _ (List.Sublist.cons_cons _ ?_))
    simp [Value.ownBlock]

theorem failed_same {S : DS} (h : S.fails = false) : S.failed.now = S.now ∧ S.failed.safe = S.safe ∧ S.failed.dirty = S.dirty := by
  unfold DS.fails at h
  unfold DS.failed
  split
  · rename_i ha
    split
    · exact ⟨rfl, rfl, rfl⟩
    · rename_i h0
      rw [ha] at h
      simp at h
      omega
  · exact ⟨rfl, rfl, rfl⟩

set_option maxRecDepth 100000 in
set_option maxHeartbeats 4000000 in
theorem dflush_any {w : World} {O : List Nat} {g : Nat} {S : DS} (h : DiskAt w O g S) (hok : S.Ok) (hlb : S.left ≤ 9223372036854775807) :
    Calls Tryz.prog 58 #[.pointer (some ⟨g, 0, none⟩)] w fun e w' => e = .returned (.int .i64 S.errF) ∧ Turns O g S.flush w w' := by
  have HON := Lib.hid (don_any h)
  have H := Lib.hid h
  by_cases hon : S.on = true
  · have HF := Lib.hid (dfails_any h hok hon hlb)
    rw [hon] at HON
    by_cases hf : S.fails = true
    · have R1 : S.errF = 14 := by unfold DS.errF; rw [if_pos hon, if_pos hf]
      have R2 : S.flush = S.failed := by unfold DS.flush; rw [if_pos hon, if_pos hf]
      rw [R1, R2]
      rw [hf] at HF
      clear R1 R2 h hok hlb hon hf
      go_enter Tryz.func58, Tryz.ntmps58
      go_wp2_with (first
        | (go_at_call 16; refine HON.out.mono ?_; rintro e w1 ⟨rfl, rfl⟩)
        | (go_at_call 87; refine HF.out.mono ?_; rintro e w1 ⟨rfl, hT⟩))
      go_ret
      exact ⟨rfl, hT⟩
    · have hff : S.fails = false := by simpa using hf
      have R1 : S.errF = 0 := by unfold DS.errF; rw [if_pos hon, if_neg hf]
      have R2 : S.flush = { S.failed with safe := S.now, dirty := [] } := by unfold DS.flush; rw [if_pos hon, if_neg hf]
      rw [R1, R2]
      rw [hff] at HF
      obtain ⟨s1, s2, s3⟩ := failed_same hff
      have hok1 := hok.failed
      obtain ⟨S1, hS1⟩ : ∃ S1, S1 = S.failed := ⟨_, rfl⟩
      rw [← hS1] at HF hok1 s1 s2 s3 ⊢
      have hnow : S.now = setAll S1.safe S1.dirty := by rw [← s1, hok1.now]
      rw [hnow]
      have HOK := Lib.hid hok1
      clear R1 R2 h hok hlb hon hf hff s1 s2 s3 hS1 hnow hok1
      go_enter Tryz.func58, Tryz.ntmps58
      go_upto_region 3 with (first
        | (go_at_call 16; refine HON.out.mono ?_; rintro e w1 ⟨rfl, rfl⟩)
        | (go_at_call 87; refine HF.out.mono ?_; rintro e w1 ⟨rfl, hT⟩))
      obtain ⟨O1, ⟨gn, gs, cn, cs, vd, vk, rfl, h1⟩, hO1, hK1⟩ := hT
      obtain ⟨p, cap, rfl, hcap, hcap2, _, _⟩ := row_slice h1.dirty
      have HO1 := Lib.hid hO1
      have HK1 := Lib.hid hK1
      have H1 := Lib.hid h1
      have ha := h1.apart
      simp only [List.nodup_cons, List.mem_cons, List.mem_append, not_or] at ha
      have HN : Hid (g ≠ gn ∧ g ≠ gs ∧ gn ≠ gs) := Lib.hid ⟨ha.1.1, ha.1.2.1, ha.2.1.1⟩
      have c2 := h1.blk.cell 2
      simp at c2
      obtain ⟨n, hn⟩ : ∃ n, n = S1.dirty.length := ⟨_, rfl⟩
      obtain ⟨ns, hns⟩ : ∃ ns, ns = S1.safe.length := ⟨_, rfl⟩
      have hgl := h1.blk.lt
      rw [← hn] at c2 hcap H1
      have HDN := Lib.hid hn
      have HNS := Lib.hid hns
      have hnI : (n : Int) ≤ 9223372036854775807 := by omega
      have hs0 := h1.safe
      rw [← hns] at hs0
      have HS0 := Lib.hid hs0
      clear hs0 ha h1 hn hns hcap hcap2 hO1 hK1 HON HF
      go_wp2_with fail
      go_loopw [17] (fun i wr => ∃ j : Nat, j ≤ n ∧ i = .int .i64 j ∧ Keep [gs] w1 wr ∧ wr.ownsRow 0 9 1 (.slice (some ⟨gs, 0, none⟩) ns cs) ns ((setAll S1.safe (S1.dirty.take j)).map Value.string)) (fun i _ => n - (intOf i).toNat)
      case atStart => exact ⟨0, Nat.zero_le _, rfl, Keep.refl _ _, by simpa [setAll] using HS0.out⟩
      case round =>
        obtain ⟨j, hj, rfl, hk, hrow⟩ := hrel
        have HK := Lib.hid hk
        have HR := Lib.hid hrow
        clear hk hrow
        have HK2 : Hid (Keep [gs, gn] w1 wr) := Lib.hid (HK.out.mono (by simp))
        have hgr : g < wr.heap.size := Nat.lt_of_lt_of_le hgl HK.out.size
        have HB : Hid (Blk wr g 59 _) := Lib.hid ((HK.out.block g hgl (by simp; exact HN.out.2.1)).trans H1.out.blk)
        by_cases hlt : j < n
        · have hjd : j < S1.dirty.length := by rw [← HDN.out]; exact hlt
          obtain ⟨x, hx⟩ : ∃ x, x = S1.dirty[j] := ⟨_, rfl⟩
          have hxj : S1.dirty[j]? = some x := by rw [hx]; exact List.getElem?_eq_getElem hjd
          have hxf : x.1 < ns := by rw [HNS.out]; exact HOK.out.fits x (by rw [hx]; exact List.getElem_mem hjd)
          obtain ⟨gd, rfl, hgd, d0, d1⟩ := H1.out.elem HK2.out hxj
          have HE : Hid (setAll S1.safe (S1.dirty.take (j + 1)) = (setAll S1.safe (S1.dirty.take j)).set x.1 x.2) := Lib.hid (by rw [take_snoc hxj, setAll_snoc])
          obtain ⟨xa, xs⟩ := x
          have hxaI : (xa : Int) < (ns : Int) := by simpa using hxf
          clear hx hxj
          simp only at d0 d1 hxf HE
          go_upto_region 6 with fail
          obtain ⟨W, hW⟩ : ∃ W, W = wr.alloc (.cells #[.int .i64 (xa : Int), .string xs] 39) := ⟨_, rfl⟩
          have kW : Keep [] wr W := by rw [hW]; exact (Keep.refl _ _).alloc _
          have bW : Blk W wr.heap.size 39 #[.int .i64 (xa : Int), .string xs] := by rw [hW]; exact Blk.new wr _ _
          have e0 := bW.cell 0
          have e1 := bW.cell 1
          have g1 := (show Blk W g 59 _ from (kW.block g hgr (by simp)).trans HB.out).cell 1
          have q0 := row_cell (row_keep HR.out kW (by simp)) (i := xa) (u := .string ((setAll S1.safe (S1.dirty.take j)).getD xa .empty)) (by
            rw [List.getElem?_map, List.getD_eq_getElem?_getD, List.getElem?_eq_getElem (by rw [setAll_length, ← HNS.out]; exact hxf)]; rfl)
          have q1 := row_frozen (row_keep HR.out kW (by simp)) xa
          simp at e0 e1 g1
          rw [← HNS.out] at g1
          obtain ⟨X, hX⟩ : ∃ X, X = (setAll S1.safe (S1.dirty.take j)).getD xa .empty := ⟨_, rfl⟩
          rw [← hX] at q0
          have HKW := Lib.hid kW
          rw [← hW]
          clear hW kW bW d0 d1 hX
          go_still_tail 9, (by kernel_rfl)
          change wpList _ _ _ _ _ W.drew
          go_wp2_with fail
          go_roundw
          case rel =>
            refine ⟨j + 1, by omega, by go_num, ?_, ?_⟩
            · exact ((HK.out.trans HKW.out (by simp)).drew).put (.inl (by simp)) _ _
            · rw [HE.out, List.map_set]
              exact row_kept (row_put (row_keep HR.out HKW.out (by simp)) (i := xa) (.string xs)) (fun _ _ => rfl)
          case measure => simp [intOf]; omega
        · obtain rfl : j = n := by omega
          have hTn : S1.dirty.take j = S1.dirty := List.take_of_length_le (by rw [← HDN.out]; exact Nat.le_refl _)
          rw [hTn, HNS.out] at HR
          have HD := Lib.hid (flush_is H1.out HK.out HR.out)
          have c2' := HB.out.cell 2
          have f2' := HB.out.frozen 2
          simp at c2'
          clear hTn hlt hj HB
          go_wp2_with fail
          go_ret
          have hkk : Keep (g :: gn :: gs :: ((Value.slice p j cap).ownBlock.toList ++ vk.ownBlock.toList)) w1 (wr.setCell ⟨g, 2, none⟩ (.slice none 0 0)) := (HK.out.mono (by simp)).put (.inl (by simp)) _ _
          refine ⟨rfl, turns_comp (by rw [HDN.out]; exact HO1.out) HK1.out ⟨_, ⟨gn, gs, cn, cs, _, vk, rfl, HD.out⟩, fun b hb => ?_, hkk⟩⟩
          simp only [List.mem_cons, List.mem_append] at hb ⊢
          rcases hb with hb | hb | hb | hb | hb
          · exact .inl (.inl hb)
          · exact .inl (.inr (.inl hb))
          · exact .inl (.inr (.inr (.inl hb)))
          · simp [Value.ownBlock] at hb
          · exact .inl (.inr (.inr (.inr (.inr hb))))
  · have R1 : S.errF = 14 := by unfold DS.errF; rw [if_neg hon]
    have R2 : S.flush = S := by unfold DS.flush; rw [if_neg hon]
    rw [R1, R2]
    rw [show S.on = false by simpa using hon] at HON
    clear R1 R2 h hok hlb hon
    go_enter Tryz.func58, Tryz.ntmps58
    go_wp2_with (go_at_call 16; refine HON.out.mono ?_; rintro e w1 ⟨rfl, rfl⟩)
    go_ret
    exact ⟨rfl, Turns.refl H.out⟩
end Go.Proofs.YtbaanoomilohhaaGreatDoor
