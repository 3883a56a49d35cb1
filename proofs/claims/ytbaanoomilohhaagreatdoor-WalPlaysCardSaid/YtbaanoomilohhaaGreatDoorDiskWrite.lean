/-
  A disk's power that goes at a call; one sector written. No statement is proved here.
-/
import Derived.Test.YtbaanoomilohhaaGreatDoorDiskCrash
import Derived.Test.YtbaanoomilohhaaGreatDoorDiskClone
import Derived.Test.YtbaanoomilohhaaGreatDoorSinks
namespace Go.Proofs.YtbaanoomilohhaaGreatDoor
open Go.RowKit

/-- The numbers that a disk keeps for its crash, as an argument. -/
theorem DiskIs.keeps {w : World} {g gn gs cn cs : Nat} {vd : Value} {p : Option Addr} {m c : Nat} {S : DS} (h : DiskIs w g gn gs cn cs vd (.slice p m c) S) : S.keep.length = m ∧ IntsD w p S.keep ∧ FarInts p S.keep [g, gn, gs] := by
  have ha := h.apart
  simp only [List.nodup_cons, List.mem_cons, List.mem_append, not_or] at ha
  have hl : S.keep.length = m := by
    rcases h.keep.2 with ⟨e, e2⟩ | ⟨_, _, _, e, _⟩
    · injection e with _ e _; omega
    · injection e with _ e _; omega
  refine ⟨hl, ?_, ?_⟩
  · intro hp
    obtain ⟨gk, cap, e, _, hlt⟩ := h.keep.form hp
    injection e with e1 e2 e3
    subst e1 e2 e3
    refine ⟨gk, 0, rfl, hlt, fun j x hx => ?_⟩
    rw [Nat.zero_add]
    exact row_cell (by rw [hl] at *; exact h.keep) (by rw [List.getElem?_map, hx]; rfl)
  · intro hp a e hm
    subst e
    simp only [List.mem_cons, List.not_mem_nil, or_false] at hm
    rcases hm with hm | hm | hm
    · exact ha.1.2.2.2 (by rw [← hm]; simp [Value.ownBlock])
    · exact ha.2.1.2.2 (by rw [← hm]; simp [Value.ownBlock])
    · exact ha.2.2.1.2 (by rw [← hm]; simp [Value.ownBlock])

set_option maxRecDepth 100000 in
set_option maxHeartbeats 1000000 in
theorem dfails_any {w : World} {O : List Nat} {g : Nat} {S : DS} (h : DiskAt w O g S) (hok : S.Ok) (hon : S.on = true) (hlb : S.left ≤ 9223372036854775807) :
    Calls Tryz.prog 87 #[.pointer (some ⟨g, 0, none⟩)] w fun e w' => e = .returned (.bool S.fails) ∧ Turns O g S.failed w w' := by
  obtain ⟨gn, gs, cn, cs, vd, vk, rfl, h⟩ := h
  obtain ⟨p, c, rfl, _⟩ := row_slice h.keep
  have H := Lib.hid h
  have c5 := h.blk.cell 5
  have c6 := h.blk.cell 6
  have c7 := h.blk.cell 7
  have f6 := h.blk.frozen 6
  have hl := h.blk.lt
  simp at c5 c6 c7
  by_cases ha : S.armed = true
  · rw [ha] at c5
    by_cases h0 : 0 < S.left
    · have R1 : S.fails = false := by unfold DS.fails; simp; omega
      have R2 : S.failed = { S with left := S.left - 1 } := by unfold DS.failed; rw [if_pos ha, if_pos h0]
      rw [R1, R2]
      obtain ⟨n, hn⟩ : ∃ n : Int, n = (S.left : Int) := ⟨_, rfl⟩
      have HN := Lib.hid hn
      have hn0 : 0 < n := by omega
      have hn1 : n ≤ 9223372036854775807 := by omega
      rw [← hn] at c6
      clear R1 R2 h hn h0 ha hon hlb
      go_enter Tryz.func87, Tryz.ntmps87
      go_wp2
      go_ret
      refine ⟨rfl, _, ⟨gn, gs, cn, cs, vd, _, rfl, H.out.put_plain S.on S.armed S.writes (S.left - 1) _ ?_ ((Keep.refl _ _).put (.inl (by simp)) _ _)⟩, fun b hb => .inl hb, (Keep.refl _ _).put (.inl (by simp)) _ _⟩
      have hb := H.out.blk.put 6 (.int .i64 (n - 1))
      have e : n - 1 = ((S.left - 1 : Nat) : Int) := by have := HN.out; omega
      rw [e] at hb ⊢
      exact hb
    · have hz : S.left = 0 := by omega
      have R1 : S.fails = true := by unfold DS.fails; simp [ha, hz]
      have R2 : S.failed = S.crash S.keep := by unfold DS.failed; rw [if_pos ha, if_neg h0]
      rw [R1, R2]
      obtain ⟨k1, k2, k3⟩ := h.keeps
      have HC := Lib.hid (dcrash_on p S.keep.length c S.keep h hok hon rfl k2 k3)
      rw [hz] at c6
      clear R1 R2 h h0 hz k1 k2 k3 hok hlb hon
      go_enter Tryz.func87, Tryz.ntmps87
      go_wp2_with (go_at_call 20; refine HC.out.mono ?_; rintro e w1 ⟨rfl, hT⟩)
      go_ret
      exact ⟨rfl, hT⟩
  · have R1 : S.fails = false := by unfold DS.fails; simp [ha]
    have R2 : S.failed = S := by unfold DS.failed; rw [if_neg ha]
    rw [R1, R2]
    have hf : S.armed = false := by simpa using ha
    rw [hf] at c5
    clear R1 R2 h ha hf hok hlb hon
    go_enter Tryz.func87, Tryz.ntmps87
    go_wp2
    go_ret
    exact ⟨rfl, Turns.refl ⟨gn, gs, cn, cs, vd, _, rfl, H.out⟩⟩

/-- A sector written. -/
theorem now_is {w : World} {g gn gs cn cs : Nat} {vd vk : Value} {S : DS} (h : DiskIs w g gn gs cn cs vd vk S) (i : Nat) (data : ByteArray) :
    DiskIs (w.setCell ⟨gn, i, none⟩ (.string data)) g gn gs cn cs vd vk { S with now := S.now.set i data } := by
  have ha := h.apart
  simp only [List.nodup_cons, List.mem_cons, List.mem_append, not_or] at ha
  have e : (S.now.set i data).length = S.now.length := by simp
  refine ⟨?_, ?_, row_far h.safe ?_ _, row_far h.dirty ?_ _, row_far h.keep ?_ _, h.apart⟩
  · show Blk _ g _ #[.slice (some ⟨gn, 0, none⟩) (S.now.set i data).length cn, _, _, _, _, _, _, _]
    rw [e]
    exact h.blk.far (by exact ha.1.1) _
  · show World.ownsRow _ 0 _ 1 (.slice (some ⟨gn, 0, none⟩) (S.now.set i data).length cn) (S.now.set i data).length ((S.now.set i data).map Value.string)
    rw [e, List.map_set]
    exact row_put h.now _
  · intro e; cases e; exact ha.2.1.1 rfl
  · intro e; exact ha.2.1.2.1 (by simp [e])
  · intro e; exact ha.2.1.2.2 (by simp [e])
/-- A write that is not safe yet. -/
theorem put_is {w wf : World} {g gn gs cn cs gd cap : Nat} {vd vk : Value} {S : DS} (h : DiskIs w g gn gs cn cs vd vk S) (x : Nat × ByteArray) (hk : Keep vd.ownBlock.toList w wf)
    (hown : wf.ownsRow 0 39 2 (.slice (some ⟨gd, 0, none⟩) (S.dirty.length + 1) cap) (S.dirty.length + 1) (flatW S.dirty ++ [.int .i64 ((x.1 : Nat) : Int), .string x.2])) (hor : vd.ownBlock = some gd ∨ w.heap.size ≤ gd) :
    DiskIs ((wf.setCell ⟨g, 2, none⟩ (.slice (some ⟨gd, 0, none⟩) (S.dirty.length + 1) cap)).setCell ⟨g, 4, none⟩ (.int .i64 ((S.writes : Int) + 1))) g gn gs cn cs (.slice (some ⟨gd, 0, none⟩) (S.dirty.length + 1) cap) vk { S with dirty := S.dirty ++ [x], writes := S.writes + 1 } := by
  have ha := h.apart
  simp only [List.nodup_cons, List.mem_cons, List.mem_append, not_or] at ha
  have hgd : ∀ b, b < w.heap.size → b ∉ vd.ownBlock.toList → b ≠ gd := by
    intro b hb hn e
    subst e
    rcases hor with hor | hor
    · exact hn (by simp [hor])
    · omega
  have hgg : g ≠ gd := hgd g h.blk.lt ha.1.2.2.1
  have hb : Blk wf g 59 #[.slice (some ⟨gn, 0, none⟩) S.now.length cn, .slice (some ⟨gs, 0, none⟩) S.safe.length cs, vd, .bool S.on, .int .i64 (S.writes : Int), .bool S.armed, .int .i64 (S.left : Int), vk] :=
    (hk.block g h.blk.lt ha.1.2.2.1).trans h.blk
  have far : ∀ {v : Value} {e : TypeId} {size n : Nat} {xs : List Value} (u1 u2 : Value), wf.ownsRow 0 e size v n xs → v.ownBlock ≠ some g → ((wf.setCell ⟨g, 2, none⟩ u1).setCell ⟨g, 4, none⟩ u2).ownsRow 0 e size v n xs :=
    fun u1 u2 hr hn => row_far (row_far hr hn _) hn _
  have hdis : ∀ b ∈ vk.ownBlock.toList, b ∉ vd.ownBlock.toList := by
    intro b hb hd
    have := ha.2.2.2
    rw [List.nodup_append] at this
    exact this.2.2 b hd b hb rfl
  refine ⟨?_, far _ _ (row_keep h.now hk ?_) ?_, far _ _ (row_keep h.safe hk ?_) ?_, ?_, far _ _ (row_keep h.keep hk ?_) ?_, ?_⟩
  · have := (hb.put 2 (.slice (some ⟨gd, 0, none⟩) (S.dirty.length + 1) cap)).put 4 (.int .i64 ((S.writes : Int) + 1))
    show Blk _ g _ #[_, _, _, _, .int .i64 ((S.writes + 1 : Nat) : Int), _, _, _]
    rw [show ((S.writes + 1 : Nat) : Int) = (S.writes : Int) + 1 by omega]
    exact this
  · intro k e hm; cases e; exact ha.2.1.2.1 hm
  · intro e; cases e; exact ha.1.1 rfl
  · intro k e hm; cases e; exact ha.2.2.1.1 hm
  · intro e; cases e; exact ha.1.2.1 rfl
  · show World.ownsRow _ 0 _ 2 _ (S.dirty ++ [x]).length (flatW (S.dirty ++ [x]))
    rw [List.length_append, List.length_singleton, flatW_snoc]
    exact far _ _ hown (by intro e; cases e; exact hgg rfl)
  · intro k e hm; exact hdis k (by simp [e]) hm
  · intro e; exact ha.1.2.2.2 (by simp [e])
  · have n1 := hgd gn (row_lt' h.now (by simp [Value.ownBlock])) ha.2.1.2.1
    have n2 := hgd gs (row_lt' h.safe (by simp [Value.ownBlock])) ha.2.2.1.1
    simp only [List.nodup_cons, List.mem_cons, not_or, Value.ownBlock, Option.toList_some, List.singleton_append]
    refine ⟨⟨ha.1.1, ha.1.2.1, hgg, ha.1.2.2.2⟩, ⟨ha.2.1.1, n1, ha.2.1.2.2⟩, ⟨n2, ha.2.2.1.2⟩, ?_, ?_⟩
    · intro hm
      exact hgd gd (row_lt' h.keep hm) (hdis gd hm) rfl
    · exact (List.nodup_append.1 ha.2.2.2).2.1

set_option maxRecDepth 100000 in
set_option maxHeartbeats 4000000 in
theorem dput_any {w : World} {g gn gs cn cs : Nat} {vd vk : Value} {S : DS} (i : Nat) (data : ByteArray) (h : DiskIs w g gn gs cn cs vd vk S) (hok : S.Ok) (hon : S.on = true) (hi : i < S.now.length) (hd : data.size = 256) (hlb : S.left ≤ 9223372036854775807) (hwb : S.writes < 1000000000000) (hdb : S.dirty.length < 1000000000000) :
    Calls Tryz.prog 86 #[.pointer (some ⟨g, 0, none⟩), .agg #[.int .i64 (i : Int), .string data]] w fun e w' => e = .returned (.int .i64 (if (S.put i data).fails then 14 else 0)) ∧ Turns (g :: gn :: gs :: (vd.ownBlock.toList ++ vk.ownBlock.toList)) g (S.put i data).failed w w' := by
  obtain ⟨pd, cd, rfl, _⟩ := row_slice h.dirty
  obtain ⟨ee, hee⟩ : ∃ ee : Int, ee = if (S.put i data).fails then 14 else 0 := ⟨_, rfl⟩
  rw [← hee]
  have HEE := Lib.hid hee
  clear hee
  have HH : Hid (∀ W : World, DiskIs W g gn gs cn cs (.slice pd S.dirty.length cd) vk S → Calls Tryz.prog 50 #[.pointer (some ⟨g, 0, none⟩), .int .i64 (i : Int)] W fun e w' => e = .returned (.bool true) ∧ W = w') := Lib.hid (fun W hW => by
    have := dhas_any (w := W) (S := S) (i : Int) ⟨gn, gs, cn, cs, _, vk, rfl, hW⟩
    rwa [show decide (0 ≤ (i : Int) ∧ (i : Int) < (S.now.length : Int)) = true by simpa using hi] at this)
  have H := Lib.hid h
  have HOK := Lib.hid hok
  have HD : Hid (data.size ≤ 281474976710656) := Lib.hid (by omega)
  have hdI : (data.size : Int) = 256 := by omega
  have HI := Lib.hid hi
  clear h hok hi hd
  go_enter Tryz.func86, Tryz.ntmps86
  go_wp2_with fail
  refine (HH.out _ (H.out.kept (fun b hb => Below.heap_alloc _ _ _ (H.out.lt hb)))).mono ?_
  rintro e w1 ⟨rfl, rfl⟩
  go_wp2_with fail
  refine (clone_any data _ HD.out).mono ?_
  rintro e w2 ⟨rfl, hb2⟩
  have bx : Blk w2 w.heap.size 39 #[.int .i64 (i : Int), .string data] := (Blk.new w _ _).below hb2 (by simp)
  have kx : Keep [] w w2 := ((Keep.refl [] w).alloc _).below_in hb2
  have x1 := bx.cell 1
  have p1 := bx.frozen 1
  simp at x1
  go_upto_region 6 with fail
  obtain ⟨W, hW⟩ : ∃ W, W = w2.setCell ⟨w.heap.size, 1, none⟩ (.string data) := ⟨_, rfl⟩
  rw [← hW]
  have bW : Blk W w.heap.size 39 #[.int .i64 (i : Int), .string data] := by rw [hW]; exact bx.put 1 _
  have kW : Keep [] w W := by rw [hW]; exact kx.put (.inr (Nat.le_refl _)) _ _
  have HW0 : Hid (DiskIs W g gn gs cn cs (.slice pd S.dirty.length cd) vk S) := Lib.hid (H.out.kept (fun b hb => kW.block b (H.out.lt hb) (by simp)))
  have HBW := Lib.hid bW
  have HKW := Lib.hid kW
  have e0 := bW.cell 0
  have e1 := bW.cell 1
  simp at e0 e1
  have g0 := HW0.out.blk.cell 0
  simp at g0
  have q0 := row_cell HW0.out.now (i := i) (u := .string (S.now.getD i .empty)) (by
    rw [List.getElem?_map, List.getD_eq_getElem?_getD, List.getElem?_eq_getElem HI.out]; rfl)
  have q1 := row_frozen HW0.out.now i
  obtain ⟨X, hX⟩ : ∃ X, X = S.now.getD i .empty := ⟨_, rfl⟩
  rw [← hX] at q0
  obtain ⟨n, hn⟩ : ∃ n, n = S.now.length := ⟨_, rfl⟩
  have hin : (i : Int) < (n : Int) := by have := HI.out; omega
  rw [← hn] at g0
  clear hX hn x1 p1 bx kx hb2 hW kW bW
  go_still_tail 9, (by kernel_rfl)
  change wpList _ _ _ _ _ W.drew
  go_upto_region 7 with fail
  clear e0 e1 g0 q0 q1 hin
  obtain ⟨W1, hW1⟩ : ∃ W1, W1 = W.setCell ⟨gn, i, none⟩ (.string data) := ⟨_, rfl⟩
  rw [← hW1]
  have HD1 : Hid (DiskIs W1 g gn gs cn cs (.slice pd S.dirty.length cd) vk { S with now := S.now.set i data }) := Lib.hid (by rw [hW1]; exact now_is HW0.out i data)
  have hgn : gn < w.heap.size := H.out.lt (by simp)
  have HB1 : Hid (Blk W1 w.heap.size 39 #[.int .i64 (i : Int), .string data]) := Lib.hid (by rw [hW1]; exact HBW.out.far (by show w.heap.size ≠ gn; omega) _)
  have HK1 : Hid (Keep [gn] w W1) := Lib.hid (by rw [hW1]; exact (HKW.out.mono (by simp)).put (.inl (by simp)) _ _)
  clear hW1 hgn
  obtain ⟨nd, hnd⟩ : ∃ nd, nd = S.dirty.length := ⟨_, rfl⟩
  obtain ⟨i0, hi0, hz0, hz1, hz2⟩ := info_parts clwrites_info
  have HE1 : Hid (World.ownsRow W1 0 39 2 (.slice pd nd cd) nd (flatW S.dirty)) := Lib.hid (by rw [hnd]; exact HD1.out.dirty)
  obtain ⟨gd, cap, Wf, hrun, hown, hgrow, hor, hlt⟩ := run_append_lies (P := Tryz.prog) (W1.drew.drew.alloc (.cells #[.int .i64 (i : Int), .string data] 39)) 34 34 0 39 i0 (.agg #[.int .i64 0, .string .empty]) 2 24 Tryz.underlying34 hi0 hz0 hz1 hz2 rfl (by omega)
    (.slice pd nd cd) nd (flatW S.dirty) ((row_kept HE1.out (fun _ _ => rfl) : World.ownsRow W1.drew.drew 0 39 2 (.slice pd nd cd) nd (flatW S.dirty)).alloc _) ⟨W1.heap.size, 0, none⟩ 1 1 [.int .i64 (i : Int), .string data] rfl
    (World.news_of_block (heap_alloc_new W1.drew.drew (.cells #[.int .i64 (i : Int), .string data] 39))) (by intro u hu; simp at hu; rcases hu with rfl | rfl <;> rfl) (by omega) (by rw [hnd]; unfold maxLen; omega) (by rw [hnd]; omega) (Nat.zero_le _) _ rfl
  have HRUN := Lib.hid hrun
  have HOWN := Lib.hid hown
  have HGR := Lib.hid hgrow
  have HOR := Lib.hid hor
  have hkf : Keep (Value.slice pd nd cd).ownBlock.toList W1 Wf := (((Keep.refl _ W1).drew.drew).alloc _).by_in hgrow (by intro g e; exact .inl (by simp [e]))
  have HKF := Lib.hid hkf
  have hb1 := HD1.out.blk
  have hdd := HD1.out.apart
  simp only [List.nodup_cons, List.mem_cons, List.mem_append, not_or] at hdd
  have hbx : w.heap.size ∉ (Value.slice pd nd cd).ownBlock.toList := by
    intro hm
    have := H.out.lt (b := w.heap.size) (by rw [← hnd]; simp only [List.mem_cons, List.mem_append]; exact .inr (.inr (.inr (.inl hm))))
    omega
  have hgx : g ∉ (Value.slice pd nd cd).ownBlock.toList := by rw [hnd]; exact hdd.1.2.2.1
  have HC : Hid (∀ w' : World, (w' = W1.drew.drew ∨ w' = W1.drew.drew.alloc (.cells #[.int .i64 (i : Int), .string data] 39) ∨ w' = Wf) →
      w'.cell? ⟨g, 2, none⟩ = some (.slice pd nd cd) ∧ w'.cell? ⟨w.heap.size, 0, none⟩ = some (.int .i64 (i : Int)) ∧ w'.cell? ⟨w.heap.size, 1, none⟩ = some (.string data)) := Lib.hid (by
    intro w' hw
    have hk : Keep (Value.slice pd nd cd).ownBlock.toList W1 w' := by
      rcases hw with rfl | rfl | rfl
      · exact (Keep.refl _ _).drew.drew
      · exact (Keep.refl _ _).drew.drew.alloc _
      · exact hkf
    have c2 := (show Blk w' g 59 _ from (hk.block g hb1.lt hgx).trans hb1).cell 2
    have k0 := (show Blk w' w.heap.size 39 _ from (hk.block _ HB1.out.lt hbx).trans HB1.out).cell 0
    have k1 := (show Blk w' w.heap.size 39 _ from (hk.block _ HB1.out.lt hbx).trans HB1.out).cell 1
    simp at c2 k0 k1
    rw [← hnd] at c2
    exact ⟨c2, k0, k1⟩)
  have HGX : Hid (g ∉ (Value.slice pd nd cd).ownBlock.toList) := Lib.hid hgx
  have HND := Lib.hid hnd
  clear hrun hown hgrow hor hkf hb1 hdd hbx hgx hnd
  refine wp_region_sinks 29 8 36 3 (fun | 0 => .pointer (some ⟨g, 0, none⟩) | 1 => .pointer (some ⟨g, 0, none⟩) | 2 => .pointer (some ⟨g, 0, none⟩) | 3 => .pointer (some ⟨g, 2, none⟩) | 4 => .slice pd nd cd | 5 => .agg #[.int .i64 (i : Int), .string data] | 6 => .slice (some ⟨W1.heap.size, 0, none⟩) 1 1 | _ => .slice (some ⟨gd, 0, none⟩) (nd + 1) cap)
    (fun L w' => w' = if L 7 then Wf else if L 6 then W1.drew.drew.alloc (.cells #[.int .i64 (i : Int), .string data] 39) else W1.drew.drew) (by kernel_rfl) (by kernel_rfl) rfl (by omega) (by kernel_rfl) rfl (by simp) rfl ?hops ?hrest
  case hops =>
    intro j hj L x w' hc hF hLj hJ hw hv
    have hJ3 : w' = W1.drew.drew ∨ w' = W1.drew.drew.alloc (.cells #[.int .i64 (i : Int), .string data] 39) ∨ w' = Wf := by
      rw [hJ]
      split
      · exact .inr (.inr rfl)
      · split
        · exact .inr (.inl rfl)
        · exact .inl rfl
    obtain ⟨k2, b0, b1⟩ := HC.out w' hJ3
    have HJ := Lib.hid hJ
    clear hJ3 hJ
    rcases (show j = 0 ∨ j = 1 ∨ j = 2 ∨ j = 3 ∨ j = 4 ∨ j = 5 ∨ j = 6 ∨ j = 7 by omega) with rfl | rfl | rfl | rfl | rfl | rfl | rfl | rfl
    · have t0 : x.tmps[0]?.getD undef = .pointer (some ⟨g, 0, none⟩) := by rw [hF.2.2 0 (by omega)]; rfl
      clear hw hv hF
      refine wpOp_value (v := .pointer (some ⟨g, 0, none⟩)) (w' := w') rfl rfl ?_ ⟨rfl, HJ.out⟩
      go_simp
    · have t0 : x.tmps[0]?.getD undef = .pointer (some ⟨g, 0, none⟩) := by rw [hF.2.2 0 (by omega)]; rfl
      clear hw hv hF
      refine wpOp_value (v := .pointer (some ⟨g, 0, none⟩)) (w' := w') rfl rfl ?_ ⟨rfl, HJ.out⟩
      go_simp
    · have t0 : x.tmps[30]?.getD undef = .pointer (some ⟨g, 0, none⟩) := hv 1 (of_decide_eq_true (by kernel_rfl)) (by omega)
      clear hw hv hF
      refine wpOp_value (v := .pointer (some ⟨g, 0, none⟩)) (w' := w') rfl rfl ?_ ⟨rfl, HJ.out⟩
      go_simp
    · have t0 : x.tmps[31]?.getD undef = .pointer (some ⟨g, 0, none⟩) := hv 2 (of_decide_eq_true (by kernel_rfl)) (by omega)
      clear hw hv hF
      refine wpOp_value (v := .pointer (some ⟨g, 2, none⟩)) (w' := w') rfl rfl ?_ ⟨rfl, HJ.out⟩
      go_simp
    · have t0 : x.tmps[32]?.getD undef = .pointer (some ⟨g, 2, none⟩) := hv 3 (of_decide_eq_true (by kernel_rfl)) (by omega)
      clear hw hv hF
      refine wpOp_value (v := .slice pd nd cd) (w' := w') rfl rfl ?_ ⟨rfl, HJ.out⟩
      go_simp
    · have t0 : x.tmps[3]?.getD undef = .pointer (some ⟨w.heap.size, 0, none⟩) := by rw [hF.2.2 3 (by omega)]; rfl
      clear hw hv hF
      refine wpOp_value (v := .agg #[.int .i64 (i : Int), .string data]) (w' := w') rfl rfl ?_ ⟨rfl, HJ.out⟩
      go_simp
    · have h7 : L 7 = false := by
        cases h : L 7 with
        | false => rfl
        | true => rw [hc 7 h 6 (of_decide_eq_true (by kernel_rfl))] at hLj; cases hLj
      have t0 : x.tmps[34]?.getD undef = .agg #[.int .i64 (i : Int), .string data] := hv 5 (of_decide_eq_true (by kernel_rfl)) (by omega)
      have hJ := HJ.out
      rw [h7, hLj] at hJ
      have hJ' : w' = W1.drew.drew := hJ
      subst hJ'
      clear hw hv hF hJ HJ
      refine wpOp_value (v := .slice (some ⟨W1.heap.size, 0, none⟩) 1 1) (w' := W1.drew.drew.alloc (.cells #[.int .i64 (i : Int), .string data] 39)) rfl rfl ?_ ⟨rfl, ?_⟩
      · go_simp
      · simp [h7]
    · have h6 : L 6 = true := hw 6 (of_decide_eq_true (by kernel_rfl))
      have t0 : x.tmps[33]?.getD undef = .slice pd nd cd := hv 4 (of_decide_eq_true (by kernel_rfl)) (by omega)
      have t1 : x.tmps[35]?.getD undef = .slice (some ⟨W1.heap.size, 0, none⟩) 1 1 := hv 6 (of_decide_eq_true (by kernel_rfl)) (by omega)
      have hJ := HJ.out
      rw [hLj, h6] at hJ
      have hJ' : w' = W1.drew.drew.alloc (.cells #[.int .i64 (i : Int), .string data] 39) := hJ
      subst hJ'
      refine wpOp_value (v := .slice (some ⟨gd, 0, none⟩) (nd + 1) cap) (w' := Wf) rfl rfl (exec_append rfl (by simpa [Act.eval] using t0) (by simpa [Act.eval] using t1) HRUN.out) ⟨rfl, by simp⟩
  case hrest =>
    intro L w' hL hJ
    rw [hL 7 (by omega)] at hJ
    have hJ' : w' = Wf := hJ
    subst hJ'
    clear hL hJ L
    obtain ⟨k2, _, _⟩ := HC.out w' (.inr (.inr rfl))
    have fg : w'.frozen? ⟨g, 2, none⟩ = false := (World.frozen?_of_block (a := ⟨g, 2, none⟩) (HKF.out.block g HD1.out.blk.lt HGX.out)).trans (HD1.out.blk.frozen 2)
    rw [show List.range' 8 3 = [8, 9, 10] from rfl]
    simp only [putAll, List.range, List.range.loop, List.foldl, Nat.reduceAdd, List.setIfInBounds_toArray, List.set_cons_succ, List.set_cons_zero]
    rw [wpOps_cons]
    refine wpOp_value (v := .pointer (some ⟨g, 0, none⟩)) (w' := w') rfl rfl (by go_simp) ?_
    rw [wpOps_cons]
    refine wpOp_value (v := .pointer (some ⟨g, 2, none⟩)) (w' := w') rfl rfl (by simp only [Act.put, List.setIfInBounds_toArray]; go_simp) ?_
    rw [wpOps_cons]
    refine wpOp_skip (w' := w'.setCell ⟨g, 2, none⟩ (.slice (some ⟨gd, 0, none⟩) (nd + 1) cap)) rfl rfl (by simp only [Act.put, List.setIfInBounds_toArray]; go_simp) ?_
    simp only [wpOps, Act.put, List.setIfInBounds_toArray]
    clear k2 fg
    obtain ⟨W2, hW2⟩ : ∃ W2, W2 = w'.setCell ⟨g, 2, none⟩ (.slice (some ⟨gd, 0, none⟩) (nd + 1) cap) := ⟨_, rfl⟩
    have b2 := (show Blk w' g 59 _ from (HKF.out.block g HD1.out.blk.lt HGX.out).trans HD1.out.blk).put 2 (.slice (some ⟨gd, 0, none⟩) (nd + 1) cap)
    rw [← hW2] at b2
    rw [← hW2]
    have k4 := b2.cell 4
    have f4 := b2.frozen 4
    simp at k4
    have HW2 := Lib.hid hW2
    clear b2 hW2
    go_upto_region 9 with fail
    have HD2 : Hid (DiskIs (W2.setCell ⟨g, 4, none⟩ (.int .i64 ((S.writes : Int) + 1))) g gn gs cn cs (.slice (some ⟨gd, 0, none⟩) (nd + 1) cap) vk (S.put i data)) := Lib.hid (by
      rw [HW2.out, HND.out]
      have h1 := HOWN.out
      have h2 := HOR.out
      have h3 := HKF.out
      rw [HND.out] at h1 h2 h3
      refine put_is HD1.out (i, data) h3 h1 ?_
      rcases h2 with h2 | h2
      · exact .inl h2
      · exact .inr (by rw [h2]; simp))
    have HKK : Hid (Keep (g :: gn :: gs :: ((Value.slice pd nd cd).ownBlock.toList ++ vk.ownBlock.toList)) w (W2.setCell ⟨g, 4, none⟩ (.int .i64 ((S.writes : Int) + 1)))) := Lib.hid (by
      rw [HW2.out]
      refine ((((HK1.out.mono ?_).trans HKF.out ?_).put (.inl (by simp)) _ _).put (.inl (by simp)) _ _)
      · intro b hb; rw [List.mem_singleton.1 hb]; exact .inl (by simp)
      · intro b hb; exact .inl (by simp only [List.mem_cons, List.mem_append]; exact .inr (.inr (.inr (.inl hb)))))
    have HGD : Hid (∀ b ∈ g :: gn :: gs :: ((Value.slice (some ⟨gd, 0, none⟩) (nd + 1) cap).ownBlock.toList ++ vk.ownBlock.toList), b ∈ g :: gn :: gs :: ((Value.slice pd nd cd).ownBlock.toList ++ vk.ownBlock.toList) ∨ w.heap.size ≤ b) := Lib.hid (by
      intro b hb
      simp only [List.mem_cons, List.mem_append] at hb ⊢
      rcases hb with hb | hb | hb | hb | hb
      · exact .inl (.inl hb)
      · exact .inl (.inr (.inl hb))
      · exact .inl (.inr (.inr (.inl hb)))
      · have hbg : b = gd := by simpa [Value.ownBlock] using hb
        rcases HOR.out with h2 | h2
        · exact .inl (.inr (.inr (.inr (.inl (by rw [hbg, h2]; simp)))))
        · right
          rw [hbg, h2]
          exact Nat.le_trans HK1.out.size (by simp)
      · exact .inl (.inr (.inr (.inr (.inr hb)))))
    obtain ⟨W3, hW3⟩ : ∃ W3, W3 = W2.setCell ⟨g, 4, none⟩ (.int .i64 ((S.writes : Int) + 1)) := ⟨_, rfl⟩
    rw [← hW3] at HD2 HKK
    rw [← hW3]
    clear hW3 HW2 k4 f4 HOWN HGR HOR HRUN HKF HC HE1 HB1 HD1
    have HFA := Lib.hid (dfails_any (w := W3) ⟨gn, gs, cn, cs, _, vk, rfl, HD2.out⟩ (HOK.out.put HI.out data) hon hlb)
    obtain ⟨bb, hbb⟩ : ∃ bb, bb = (S.put i data).fails := ⟨_, rfl⟩
    rw [← hbb] at HFA
    have HBB := Lib.hid hbb
    clear hbb
    have HND' := HND.out
    rw [HND'] at HKK HGD HFA
    clear HND'
    cases bb with
    | true =>
      go_wp2_with (go_at_call 87; refine HFA.out.mono ?_; rintro e w3 ⟨rfl, hT⟩)
      go_ret
      rw [HEE.out, ← HBB.out]
      obtain ⟨O3, t1, t2, t3⟩ := hT
      refine ⟨rfl, O3, t1, fun b hb => ?_, HKK.out.trans t3 HGD.out⟩
      rcases t2 b hb with h | h
      · exact HGD.out b h
      · exact .inr (by have := HKK.out.size; omega)
    | false =>
      go_wp2_with (go_at_call 87; refine HFA.out.mono ?_; rintro e w3 ⟨rfl, hT⟩)
      go_ret
      rw [HEE.out, ← HBB.out]
      obtain ⟨O3, t1, t2, t3⟩ := hT
      refine ⟨rfl, O3, t1, fun b hb => ?_, HKK.out.trans t3 HGD.out⟩
      rcases t2 b hb with h | h
      · exact HGD.out b h
      · exact .inr (by have := HKK.out.size; omega)
end Go.Proofs.YtbaanoomilohhaaGreatDoor
