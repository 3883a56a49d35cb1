/-
  A disk's Flush. No statement is proved here.
-/
import Derived.Test.YtdibeieiogagoaaGreatDoorDiskWrite
namespace Go.Proofs.YtdibeieiogagoaaGreatDoor
open Go.RowKit

set_option maxRecDepth 100000 in
set_option maxHeartbeats 1000000 in
theorem dwrite1_any {w : World} {O : List Nat} {g : Nat} {S : DS} (at_ : Int) (data : ByteArray) (h : DiskAt w O g S) (hok : S.Ok) (hon : S.on = true) (hlb : S.left ≤ 9223372036854775807) (hwb : S.writes < 1000000000000) (hdb : S.dirty.length < 1000000000000) :
    Calls Tryz.prog 72 #[.pointer (some ⟨g, 0, none⟩), .agg #[.int .i64 at_, .string data]] w fun e w' => e = .returned (.int .i64 (S.err1 at_ data)) ∧ Turns O g (S.write1 at_ data) w w' := by
  by_cases hr : 0 ≤ at_ ∧ at_ < (S.now.length : Int)
  · by_cases hd : data.size = 256
    · obtain ⟨i, rfl⟩ : ∃ i : Nat, at_ = (i : Int) := ⟨at_.toNat, by omega⟩
      have R1 : S.err1 i data = if (S.put i data).fails then 14 else 0 := by unfold DS.err1; rw [if_pos hr, if_pos hd, Int.toNat_natCast]
      have R2 : S.write1 i data = (S.put i data).failed := by unfold DS.write1; rw [if_pos ⟨hr.1, hr.2, hd⟩, Int.toNat_natCast]
      rw [R1, R2]
      obtain ⟨gn, gs, cn, cs, vd, vk, rfl, h⟩ := h
      exact dput_any i data h hok hon (by omega) hd hlb hwb hdb
    · have R1 : S.err1 at_ data = 1 := by unfold DS.err1; rw [if_pos hr, if_neg hd]
      have R2 : S.write1 at_ data = S := by unfold DS.write1; rw [if_neg (fun h => hd h.2.2)]
      rw [R1, R2]
      have hA : ∀ o : Obj, DiskAt (w.alloc o) O g S := fun o => h.kept (fun b hb => Below.heap_alloc _ _ _ (h.lt hb))
      have HH : Hid (∀ o : Obj, Calls Tryz.prog 114 #[.pointer (some ⟨g, 0, none⟩), .int .i64 at_] (w.alloc o) fun e w' => e = .returned (.bool true) ∧ w.alloc o = w') := Lib.hid (fun o => by
        have := dhas_any at_ (hA o)
        rwa [show decide (0 ≤ at_ ∧ at_ < (S.now.length : Int)) = true by simpa using hr] at this)
      have H := Lib.hid h
      have hdn : ((data.size : Int) == 256) = false := beq_eq_false_iff_ne.2 (by omega)
      have hdm : ((data.size : Int) != 256) = true := bne_iff_ne.2 (by omega)
      clear R1 R2 hr hd h hA hok hon hlb hwb hdb
      go_enter Tryz.func72, Tryz.ntmps72
      go_wp2_with fail
      refine (HH.out _).mono ?_
      rintro e w1 ⟨rfl, rfl⟩
      go_wp2_with fail
      go_ret
      exact ⟨rfl, Turns.of_below H.out ((Below.refl _ _).alloc (Nat.le_refl _) _)⟩
  · have R1 : S.err1 at_ data = 15 := by unfold DS.err1; rw [if_neg hr]
    have R2 : S.write1 at_ data = S := by unfold DS.write1; rw [if_neg (fun h => hr ⟨h.1, h.2.1⟩)]
    rw [R1, R2]
    have hA : ∀ o : Obj, DiskAt (w.alloc o) O g S := fun o => h.kept (fun b hb => Below.heap_alloc _ _ _ (h.lt hb))
    have HH : Hid (∀ o : Obj, Calls Tryz.prog 114 #[.pointer (some ⟨g, 0, none⟩), .int .i64 at_] (w.alloc o) fun e w' => e = .returned (.bool false) ∧ w.alloc o = w') := Lib.hid (fun o => by
      have := dhas_any at_ (hA o)
      rwa [show decide (0 ≤ at_ ∧ at_ < (S.now.length : Int)) = false by simpa using hr] at this)
    have H := Lib.hid h
    clear R1 R2 hr h hA hok hon hlb hwb hdb
    go_enter Tryz.func72, Tryz.ntmps72
    go_wp2_with fail
    refine (HH.out _).mono ?_
    rintro e w1 ⟨rfl, rfl⟩
    go_wp2_with fail
    go_ret
    exact ⟨rfl, Turns.of_below H.out ((Below.refl _ _).alloc (Nat.le_refl _) _)⟩

theorem row_mono {w : World} {base base' : Nat} {e : TypeId} {size : Nat} {v : Value} {n : Nat} {xs : List Value} (h : w.ownsRow base e size v n xs) (hb : base' ≤ base) : w.ownsRow base' e size v n xs := by
  refine ⟨h.1, ?_⟩
  rcases h.2 with hn | ⟨g, cap, cur, e, hb1, rest⟩
  · exact .inl hn
  · exact .inr ⟨g, cap, cur, e, Nat.le_trans hb hb1, rest⟩
theorem turns_comp {w w1 w2 : World} {O O' : List Nat} {g : Nat} {S : DS} (hO : ∀ b ∈ O', b ∈ O ∨ w.heap.size ≤ b) (hk : Keep O w w1) (h : Turns O' g S w1 w2) : Turns O g S w w2 := by
  obtain ⟨O3, t1, t2, t3⟩ := h
  refine ⟨O3, t1, fun b hb => ?_, hk.trans t3 hO⟩
  rcases t2 b hb with h | h
  · exact hO b h
  · exact .inr (Nat.le_trans hk.size h)
theorem turns_alloc {w w2 : World} {O : List Nat} {g : Nat} {S : DS} {o : Obj} (h : Turns O g S (w.alloc o) w2) : Turns O g S w w2 :=
  Turns.after ((Below.refl _ _).alloc (Nat.le_refl _) _) h

/-- A list of writes as a slice: nil, empty or not; of blocks that O does not hold. -/
def Wrts (w : World) (O : List Nat) (A : Option Addr) (l : List (Int × ByteArray)) : Prop :=
  0 < l.length → ∃ b off, A = some ⟨b, off, none⟩ ∧ b < w.heap.size ∧ b ∉ O ∧ ∀ (j : Nat) (x : Int × ByteArray), l[j]? = some x → w.cell? ⟨b, off + j * 2, none⟩ = some (.int .i64 x.1) ∧ w.cell? ⟨b, off + j * 2 + 1, none⟩ = some (.string x.2)

theorem DS.failed_left (S : DS) : S.failed.left ≤ S.left := by
  unfold DS.failed DS.crash
  split <;> (try split) <;> (try split) <;> simp
theorem DS.write1_left (S : DS) (at_ : Int) (data : ByteArray) : (S.write1 at_ data).left ≤ S.left := by
  unfold DS.write1
  split
  · exact DS.failed_left _
  · exact Nat.le_refl _

set_option maxRecDepth 100000 in
set_option maxHeartbeats 2000000 in
theorem dwrite_any {w : World} {O : List Nat} {g : Nat} {S : DS} (A : Option Addr) (m c : Nat) (l : List (Int × ByteArray)) (h : DiskAt w O g S) (hok : S.Ok) (hl : l.length = m) (hA : Wrts w O A l) (hlb : S.left ≤ 9223372036854775807) (hwb : S.writes + m < 1000000000000) (hdb : S.dirty.length + m < 1000000000000) :
    Calls Tryz.prog 35 #[.pointer (some ⟨g, 0, none⟩), .slice A m c] w fun e w' => e = .returned (.int .i64 (S.errW l)) ∧ Turns O g (S.write l) w w' := by
  have HO := Lib.hid (don_any h)
  have H := Lib.hid h
  by_cases hon : S.on = true
  · have R1 : S.errW l = S.errL l := by unfold DS.errW; rw [if_pos hon]
    have R2 : S.write l = S.writeL l := by unfold DS.write; rw [if_pos hon]
    rw [R1, R2]
    rw [hon] at HO
    obtain ⟨ee, hee⟩ : ∃ ee, ee = S.errL l := ⟨_, rfl⟩
    rw [← hee]
    have HEE := Lib.hid hee
    have HOK := Lib.hid hok
    have HON := Lib.hid hon
    have HL := Lib.hid hl
    have HA := Lib.hid hA
    have HLB := Lib.hid hlb
    have HWB := Lib.hid hwb
    have HDB := Lib.hid hdb
    have hm : (m : Int) ≤ 9223372036854775807 := by omega
    clear R1 R2 h hok hon hl hA hee hlb hwb hdb
    go_enter Tryz.func35, Tryz.ntmps35
    go_wp2_with (go_at_call 28; refine HO.out.mono ?_; rintro e w1 ⟨rfl, rfl⟩)
    go_loopw [13] (fun i wr => ∃ (j : Nat) (T : DS), j ≤ m ∧ i = .int .i64 j ∧ Turns O g T w wr ∧ T.Ok ∧ T.on = true ∧ T.writes ≤ S.writes + j ∧ T.dirty.length ≤ S.dirty.length + j ∧ T.left ≤ S.left ∧ S.errL l = T.errL (l.drop j) ∧ S.writeL l = T.writeL (l.drop j)) (fun i _ => m - (intOf i).toNat)
    case atStart => exact ⟨0, S, Nat.zero_le _, rfl, Turns.refl H.out, HOK.out, HON.out, by omega, by omega, Nat.le_refl _, rfl, rfl⟩
    case round =>
      obtain ⟨j, T, hj, rfl, hT, hTok, hTon, hTw, hTd, hTl, he1, he2⟩ := hrel
      have HT := Lib.hid hT
      have HE1 := Lib.hid he1
      have HE2 := Lib.hid he2
      have HTO := Lib.hid hTok
      clear hT he1 he2 hTok
      by_cases hlt : j < m
      · have hjl : j < l.length := by rw [HL.out]; exact hlt
        obtain ⟨b, off, rfl, hbw, hbO, hc⟩ := HA.out (by omega)
        obtain ⟨x, hx⟩ : ∃ x, x = l[j] := ⟨_, rfl⟩
        have hxj : l[j]? = some x := by rw [hx]; exact List.getElem?_eq_getElem hjl
        have hdrop : l.drop j = x :: l.drop (j + 1) := by rw [List.drop_eq_getElem_cons hjl, hx]
        obtain ⟨d0, d1⟩ := hc j x hxj
        obtain ⟨O', hD, hO', hK⟩ := HT.out
        have hbb : wr.heap[b]? = w.heap[b]? := hK.block b hbw hbO
        have hbr : b < wr.heap.size := Nat.lt_of_lt_of_le hbw hK.size
        have d0' : wr.cell? ⟨b, off + j * 2, none⟩ = some (.int .i64 x.1) := (World.cell?_of_block (a := ⟨b, off + j * 2, none⟩) hbb).trans d0
        have d1' : wr.cell? ⟨b, off + j * 2 + 1, none⟩ = some (.string x.2) := (World.cell?_of_block (a := ⟨b, off + j * 2 + 1, none⟩) hbb).trans d1
        obtain ⟨xa, xs⟩ := x
        simp only at d0' d1'
        have HW1 : Hid (Calls Tryz.prog 72 #[.pointer (some ⟨g, 0, none⟩), .agg #[.int .i64 xa, .string xs]] (wr.alloc (.cells #[.int .i64 xa, .string xs] 68)) fun e w' => e = .returned (.int .i64 (T.err1 xa xs)) ∧ Turns O g (T.write1 xa xs) w w') := Lib.hid (by
          refine (dwrite1_any xa xs (hD.kept (fun b hb => Below.heap_alloc _ _ _ (hD.lt hb))) HTO.out hTon (by have := HLB.out; omega) (by have := HWB.out; omega) (by have := HDB.out; omega)).mono ?_
          rintro e w3 ⟨rfl, hT3⟩
          exact ⟨rfl, turns_comp hO' hK (turns_alloc hT3)⟩)
        have hlen : j + 1 ≤ m := hlt
        clear hx hxj hc d0 d1 hD hO' hK hbb hbw hbO hjl
        by_cases he : T.err1 xa xs = 0
        · have q1 : T.errL ((xa, xs) :: l.drop (j + 1)) = (T.write1 xa xs).errL (l.drop (j + 1)) := by rw [DS.errL, if_pos he]
          have q2 : T.writeL ((xa, xs) :: l.drop (j + 1)) = (T.write1 xa xs).writeL (l.drop (j + 1)) := by rw [DS.writeL, if_pos he]
          have HN := Lib.hid (And.intro (HTO.out.write1 xa xs) (And.intro (DS.write1_on he hTon) (And.intro (Nat.le_trans (DS.write1_writes T xa xs) (show T.writes + 1 ≤ S.writes + (j + 1) by omega)) (And.intro (Nat.le_trans (DS.write1_dirty T xa xs) (show T.dirty.length + 1 ≤ S.dirty.length + (j + 1) by omega)) (Nat.le_trans (DS.write1_left T xa xs) hTl)))))
          have HQ := Lib.hid (And.intro (HE1.out.trans (by rw [hdrop, q1])) (HE2.out.trans (by rw [hdrop, q2])))
          rw [he] at HW1
          clear q1 q2 he hdrop hTon hTw hTd hTl
          go_wp2_with fail
          refine HW1.out.mono ?_
          rintro e w3 ⟨rfl, hT3⟩
          go_wp2_with fail
          go_roundw
          case rel => exact ⟨j + 1, T.write1 xa xs, hlen, by go_num, hT3, HN.out.1, HN.out.2.1, HN.out.2.2.1, HN.out.2.2.2.1, HN.out.2.2.2.2, HQ.out.1, HQ.out.2⟩
          case measure => simp [intOf]; omega
        · have q1 : T.errL ((xa, xs) :: l.drop (j + 1)) = T.err1 xa xs := by rw [DS.errL, if_neg he]
          have q2 : T.writeL ((xa, xs) :: l.drop (j + 1)) = T.write1 xa xs := by rw [DS.writeL, if_neg he]
          have HQ := Lib.hid (And.intro (HE1.out.trans (by rw [hdrop, q1])) (HE2.out.trans (by rw [hdrop, q2])))
          obtain ⟨v, hv⟩ : ∃ v, v = T.err1 xa xs := ⟨_, rfl⟩
          rw [← hv] at HW1 HQ he
          have hb : (v != 0) = true := bne_iff_ne.2 he
          clear q1 q2 he hdrop hTon hTw hTd hTl hv
          go_wp2_with fail
          refine HW1.out.mono ?_
          rintro e w3 ⟨rfl, hT3⟩
          go_wp2_with fail
          go_ret
          rw [HQ.out.2, HEE.out, HQ.out.1]
          exact ⟨rfl, hT3⟩
      · obtain rfl : j = m := by omega
        have hd : l.drop j = [] := List.drop_of_length_le (by rw [HL.out]; exact Nat.le_refl _)
        have q1 : ee = 0 := by rw [HEE.out, HE1.out, hd]; rfl
        have HQ : Hid (S.writeL l = T) := Lib.hid (by rw [HE2.out, hd]; rfl)
        clear hd
        go_wp2_with fail
        go_ret
        rw [HQ.out]
        exact ⟨by rw [q1]; rfl, HT.out⟩
  · have R1 : S.errW l = 14 := by unfold DS.errW; rw [if_neg hon]
    have R2 : S.write l = S := by unfold DS.write; rw [if_neg hon]
    rw [R1, R2]
    rw [show S.on = false by simpa using hon] at HO
    clear R1 R2 h hok hon hl hA hlb hwb hdb
    go_enter Tryz.func35, Tryz.ntmps35
    go_wp2_with (go_at_call 28; refine HO.out.mono ?_; rintro e w1 ⟨rfl, rfl⟩)
    go_ret
    exact ⟨rfl, Turns.refl H.out⟩
set_option maxHeartbeats 400000 in
theorem dwrite_nil (v : Value) (w : World) :
    Calls Tryz.prog 35 #[.pointer none, v] w fun e w' => e = .returned (.int .i64 14) ∧ w = w' := by
  go_enter Tryz.func35, Tryz.ntmps35
  go_wp2_with (go_at_call 28; refine (don_nil _).mono ?_; rintro e w1 ⟨rfl, rfl⟩)
  go_ret
  exact ⟨rfl, rfl⟩
set_option maxHeartbeats 400000 in
theorem dflush_nil (w : World) :
    Calls Tryz.prog 82 #[.pointer none] w fun e w' => e = .returned (.int .i64 14) ∧ w = w' := by
  go_enter Tryz.func82, Tryz.ntmps82
  go_wp2_with (go_at_call 28; refine (don_nil _).mono ?_; rintro e w1 ⟨rfl, rfl⟩)
  go_ret
  exact ⟨rfl, rfl⟩
set_option maxHeartbeats 400000 in
theorem darm_nil (n : Int) (v : Value) (w : World) :
    Calls Tryz.prog 34 #[.pointer none, .int .i64 n, v] w fun e w' => e = .returned (.tuple #[]) ∧ w = w' := by
  go_enter Tryz.func34, Tryz.ntmps34
  go_wp2_with fail
  go_end0
  exact ⟨rfl, rfl⟩
set_option maxRecDepth 100000 in
set_option maxHeartbeats 1000000 in
theorem darm_any {w : World} {O : List Nat} {g : Nat} {S : DS} (n : Int) (A : Option Addr) (m c : Nat) (l : List Int) (h : DiskAt w O g S) (hl : l.length = m) (hA : IntsD w A l) (h0 : A = none → m = 0 ∧ c = 0) (hm : m ≤ 1000000) :
    Calls Tryz.prog 34 #[.pointer (some ⟨g, 0, none⟩), .int .i64 n, .slice A m c] w fun e w' => e = .returned (.tuple #[]) ∧ Turns O g (S.arm n l) w w' := by
  by_cases hn : n < 0
  · have R : S.arm n l = { S with armed := false, left := 0, keep := [] } := by unfold DS.arm; rw [if_pos hn]
    rw [R]
    have HD := Lib.hid (ddisarm_any h)
    clear R h hl hA h0 hm
    go_enter Tryz.func34, Tryz.ntmps34
    go_wp2_with (go_at_call 70; refine HD.out.mono ?_; rintro e w1 ⟨rfl, hT⟩)
    go_end0
    exact ⟨rfl, hT⟩
  · have R : S.arm n l = { S with armed := true, left := n.toNat, keep := l } := by unfold DS.arm; rw [if_neg hn]
    rw [R]
    obtain ⟨gn, gs, cn, cs, vd, vk, rfl, h⟩ := h
    have H := Lib.hid h
    have HL := Lib.hid hl
    have HC := Lib.hid (clints_any A m c l w hl (by
      intro ad e j u hu
      subst e
      rw [List.getElem?_map] at hu
      obtain ⟨x, hx, rfl⟩ := Option.map_eq_some_iff.1 hu
      obtain ⟨b, off, e, _, hc⟩ := hA (by
        rcases Nat.lt_or_ge j l.length with h | h
        · omega
        · rw [List.getElem?_eq_none h] at hx; cases hx)
      injection e with e
      subst e
      rw [Go.WideShapes.add_plain]
      exact hc j x hx) h0 (by omega))
    have HN : Hid (((n.toNat : Nat) : Int) = n) := Lib.hid (by omega)
    clear R h hl hA h0 hm
    go_enter Tryz.func34, Tryz.ntmps34
    go_wp2_with fail
    refine HC.out.mono ?_
    rintro e w1 ⟨v, rfl, hrow, hb⟩
    obtain ⟨pv, cv, rfl, _⟩ := row_slice hrow
    have hbk : Blk w1 g 84 _ := H.out.blk.below hb H.out.blk.lt
    have HB := Lib.hid hb
    have HR := Lib.hid hrow
    have HD1 := Lib.hid (H.out.kept (fun b hb' => hb.block b (H.out.lt hb')))
    have c5 := hbk.cell 5
    have c6 := hbk.cell 6
    have c7 := hbk.cell 7
    have f5 := hbk.frozen 5
    have f6 := hbk.frozen 6
    have f7 := hbk.frozen 7
    have hgl := hbk.lt
    simp at c5 c6 c7
    clear hbk hb hrow
    go_wp2_with fail
    go_end0
    have h1 := HD1.out
    have hvb : ∀ b, b ∈ (Value.slice pv m cv).ownBlock.toList → w.heap.size ≤ b := fun b hb => (HR.out.lt b (by simpa using hb)).1
    have ha := h1.apart
    simp only [List.nodup_cons, List.mem_cons, List.mem_append, not_or] at ha
    have hk : Keep [g] w1 (((w1.setCell ⟨g, 5, none⟩ (.bool true)).setCell ⟨g, 6, none⟩ (.int .i64 n)).setCell ⟨g, 7, none⟩ (.slice pv m cv)) := (((Keep.refl _ _).put (.inl (by simp)) _ _).put (.inl (by simp)) _ _).put (.inl (by simp)) _ _
    refine ⟨rfl, g :: gn :: gs :: (vd.ownBlock.toList ++ (Value.slice pv m cv).ownBlock.toList), ⟨gn, gs, cn, cs, vd, .slice pv m cv, rfl, ?_, row_keep h1.now hk ?_, row_keep h1.safe hk ?_, row_keep h1.dirty hk ?_, ?_, ?_⟩, ?_, ?_⟩
    · have hb := ((h1.blk.put 5 (.bool true)).put 6 (.int .i64 n)).put 7 (.slice pv m cv)
      show Blk _ g _ #[_, _, _, _, _, .bool true, .int .i64 ((n.toNat : Nat) : Int), .slice pv m cv]
      rw [HN.out]
      exact hb
    · intro k e hm; cases e; exact ha.1.1 (List.mem_singleton.1 hm).symm
    · intro k e hm; cases e; exact ha.1.2.1 (List.mem_singleton.1 hm).symm
    · intro k e hm; exact ha.1.2.2.1 (by rw [e, ← List.mem_singleton.1 hm]; simp)
    · show World.ownsRow _ 0 _ 1 (.slice pv m cv) l.length _
      rw [HL.out]
      exact row_keep (row_mono HR.out (Nat.zero_le _)) hk (by
        intro k e hm
        have := hvb k (by simp [e])
        have := H.out.blk.lt
        have := List.mem_singleton.1 hm
        omega)
    · have hlt : ∀ b ∈ g :: gn :: gs :: (vd.ownBlock.toList ++ vk.ownBlock.toList), b < w.heap.size := fun b hb => H.out.lt hb
      have hn : ∀ b ∈ g :: gn :: gs :: (vd.ownBlock.toList ++ vk.ownBlock.toList), b ∉ (Value.slice pv m cv).ownBlock.toList := fun b hb hm => by
        have := hlt b hb
        have := hvb b hm
        omega
      simp only [List.nodup_cons, List.mem_cons, List.mem_append, not_or]
      refine ⟨⟨ha.1.1, ha.1.2.1, ha.1.2.2.1, hn g (by simp)⟩, ⟨ha.2.1.1, ha.2.1.2.1, hn gn (by simp)⟩, ⟨ha.2.2.1.1, hn gs (by simp)⟩, List.nodup_append.2 ⟨(List.nodup_append.1 ha.2.2.2).1, by cases (Value.slice pv m cv).ownBlock <;> simp, fun b hb b' hb' e => ?_⟩⟩
      subst e
      exact hn b (by simp only [List.mem_cons, List.mem_append]; exact .inr (.inr (.inr (.inl hb)))) hb'
    · intro b hb
      simp only [List.mem_cons, List.mem_append] at hb ⊢
      rcases hb with hb | hb | hb | hb | hb
      · exact .inl (.inl hb)
      · exact .inl (.inr (.inl hb))
      · exact .inl (.inr (.inr (.inl hb)))
      · exact .inl (.inr (.inr (.inr (.inl hb))))
      · exact .inr (hvb b hb)
    · exact (Keep.of_below HB.out).trans hk (by intro b hb; rw [List.mem_singleton.1 hb]; exact .inl (by simp))
end Go.Proofs.YtdibeieiogagoaaGreatDoor

namespace Go.Proofs.YtdibeieiogagoaaGreatDoor
open Go.RowKit

abbrev Wr1 := Int × ByteArray
/-- Groups of writes, each flushed. -/
def putS (S : DS) : List (List Wr1) → DS
  | [] => S
  | g :: r => if S.errW g = 0 then (if (S.write g).errF = 0 then putS (S.write g).flush r else (S.write g).flush) else S.write g
def putE (S : DS) : List (List Wr1) → Int
  | [] => 0
  | g :: r => if S.errW g = 0 then (if (S.write g).errF = 0 then putE (S.write g).flush r else (S.write g).errF) else S.errW g

theorem DS.writeL_writes (l : List Wr1) : ∀ (S : DS), (S.writeL l).writes ≤ S.writes + l.length := by
  induction l with
  | nil => intro S; exact Nat.le_refl _
  | cons x r ih =>
    intro S
    unfold DS.writeL
    have h1 := DS.write1_writes S x.1 x.2
    split
    · have := ih (S.write1 x.1 x.2); simp only [List.length_cons]; omega
    · simp only [List.length_cons]; omega
theorem DS.writeL_dirty (l : List Wr1) : ∀ (S : DS), (S.writeL l).dirty.length ≤ S.dirty.length + l.length := by
  induction l with
  | nil => intro S; exact Nat.le_refl _
  | cons x r ih =>
    intro S
    unfold DS.writeL
    have h1 := DS.write1_dirty S x.1 x.2
    split
    · have := ih (S.write1 x.1 x.2); simp only [List.length_cons]; omega
    · simp only [List.length_cons]; omega
theorem DS.writeL_left (l : List Wr1) : ∀ (S : DS), (S.writeL l).left ≤ S.left := by
  induction l with
  | nil => intro S; exact Nat.le_refl _
  | cons x r ih =>
    intro S
    unfold DS.writeL
    have h1 := DS.write1_left S x.1 x.2
    split
    · exact Nat.le_trans (ih (S.write1 x.1 x.2)) h1
    · exact h1
theorem DS.writeL_len (l : List Wr1) : ∀ (S : DS), S.Ok → (S.writeL l).now.length = S.now.length := by
  induction l with
  | nil => intro S _; rfl
  | cons x r ih =>
    intro S h
    unfold DS.writeL
    have h1 := DS.write1_len h x.1 x.2
    split
    · rw [ih _ (h.write1 _ _), h1]
    · exact h1
theorem DS.write_writes (S : DS) (l : List Wr1) : (S.write l).writes ≤ S.writes + l.length := by
  unfold DS.write; split
  · exact DS.writeL_writes l S
  · omega
theorem DS.write_dirty (S : DS) (l : List Wr1) : (S.write l).dirty.length ≤ S.dirty.length + l.length := by
  unfold DS.write; split
  · exact DS.writeL_dirty l S
  · omega
theorem DS.write_left (S : DS) (l : List Wr1) : (S.write l).left ≤ S.left := by
  unfold DS.write; split
  · exact DS.writeL_left l S
  · exact Nat.le_refl _
theorem DS.write_len {S : DS} (h : S.Ok) (l : List Wr1) : (S.write l).now.length = S.now.length := by
  unfold DS.write; split
  · exact DS.writeL_len l S h
  · rfl
theorem DS.flush_writes (S : DS) : S.flush.writes = S.writes := by
  unfold DS.flush
  split
  · split
    · exact DS.failed_writes S
    · exact DS.failed_writes S
  · rfl
theorem DS.flush_dirty (S : DS) : S.flush.dirty.length ≤ S.dirty.length := by
  unfold DS.flush
  split
  · split
    · exact DS.failed_dirty S
    · exact Nat.zero_le _
  · exact Nat.le_refl _
theorem DS.flush_left (S : DS) : S.flush.left ≤ S.left := by
  unfold DS.flush
  split
  · split
    · exact DS.failed_left S
    · exact DS.failed_left S
  · exact Nat.le_refl _
theorem DS.flush_len {S : DS} (h : S.Ok) : S.flush.now.length = S.now.length := by
  unfold DS.flush
  split
  · split
    · exact DS.failed_len h
    · exact DS.failed_len h
  · rfl
theorem putS_ok (l : List (List Wr1)) : ∀ (S : DS), S.Ok → (putS S l).Ok := by
  induction l with
  | nil => intro S h; exact h
  | cons g r ih =>
    intro S h
    unfold putS
    split
    · split
      · exact ih _ (h.write g).flush
      · exact (h.write g).flush
    · exact h.write g
theorem putS_len (l : List (List Wr1)) : ∀ (S : DS), S.Ok → (putS S l).now.length = S.now.length := by
  induction l with
  | nil => intro S h; rfl
  | cons g r ih =>
    intro S h
    unfold putS
    split
    · split
      · rw [ih _ (h.write g).flush, DS.flush_len (h.write g), DS.write_len h]
      · rw [DS.flush_len (h.write g), DS.write_len h]
    · rw [DS.write_len h]
theorem putS_left (l : List (List Wr1)) : ∀ (S : DS), (putS S l).left ≤ S.left := by
  induction l with
  | nil => intro S; exact Nat.le_refl _
  | cons g r ih =>
    intro S
    have h1 := DS.write_left S g
    have h2 := DS.flush_left (S.write g)
    unfold putS
    split
    · split
      · exact Nat.le_trans (ih _) (Nat.le_trans h2 h1)
      · exact Nat.le_trans h2 h1
    · exact h1
/-- How many writes groups have. -/
def sumL (l : List (List Wr1)) : Nat := l.foldr (fun g n => g.length + n) 0
theorem putS_writes (l : List (List Wr1)) : ∀ (S : DS), (putS S l).writes ≤ S.writes + sumL l := by
  induction l with
  | nil => intro S; exact Nat.le_add_right _ _
  | cons g r ih =>
    intro S
    have h1 := DS.write_writes S g
    have h2 := DS.flush_writes (S.write g)
    have h3 := ih (S.write g).flush
    have e : sumL (g :: r) = g.length + sumL r := rfl
    unfold putS
    split
    · split
      · omega
      · omega
    · omega
theorem putS_dirty (l : List (List Wr1)) : ∀ (S : DS), (putS S l).dirty.length ≤ S.dirty.length + sumL l := by
  induction l with
  | nil => intro S; exact Nat.le_add_right _ _
  | cons g r ih =>
    intro S
    have h1 := DS.write_dirty S g
    have h2 := DS.flush_dirty (S.write g)
    have h3 := ih (S.write g).flush
    have e : sumL (g :: r) = g.length + sumL r := rfl
    unfold putS
    split
    · split
      · omega
      · omega
    · omega

/-- By which error nothing is written; m home sectors. -/
def refE (m : Int) : List Wr1 → Int
  | [] => 0
  | x :: r => if 0 ≤ x.1 ∧ x.1 < m then (if x.2.size = 256 then refE m r else 1) else 15

/-- The last one of l that names t. -/
def lastB (l : List Wr1) (t : Int) : ByteArray := (l.foldl (fun o x => if x.1 = t then some x.2 else o) none).getD .empty
/-- What is written ahead of home, and home. -/
def copiesL (l : List Wr1) : Nat → List Int → List Wr1
  | _, [] => []
  | k, t :: r => (1 + (k : Int), lastB l t) :: copiesL l (k + 1) r
def homeL (l : List Wr1) (ts : List Int) : List Wr1 := ts.map fun t => (111 + t, lastB l t)
theorem copiesL_length (l : List Wr1) (ts : List Int) : ∀ k, (copiesL l k ts).length = ts.length := by
  induction ts with
  | nil => intro k; rfl
  | cons t r ih => intro k; simp [copiesL, ih]
theorem copiesL_snoc (l : List Wr1) (t : Int) (ts : List Int) : ∀ k, copiesL l k (ts ++ [t]) = copiesL l k ts ++ [(1 + ((k + ts.length : Nat) : Int), lastB l t)] := by
  induction ts with
  | nil => intro k; simp [copiesL]
  | cons u r ih =>
    intro k
    simp only [List.cons_append, copiesL, ih, List.length_cons]
    rw [show k + 1 + r.length = k + (r.length + 1) by omega]
theorem homeL_length (l : List Wr1) (ts : List Int) : (homeL l ts).length = ts.length := by unfold homeL; simp
theorem homeL_snoc (l : List Wr1) (t : Int) (ts : List Int) : homeL l (ts ++ [t]) = homeL l ts ++ [(111 + t, lastB l t)] := by unfold homeL; simp
end Go.Proofs.YtdibeieiogagoaaGreatDoor

namespace Go.Proofs.YtdibeieiogagoaaGreatDoor
open Go.RowKit

/-- The disk behind a flush. -/
theorem flush_is {w w2 : World} {g gn gs cn cs : Nat} {vd vk : Value} {S : DS} (h : DiskIs w g gn gs cn cs vd vk S) (hk : Keep [gs] w w2)
    (hs : w2.ownsRow 0 9 1 (.slice (some ⟨gs, 0, none⟩) S.safe.length cs) S.safe.length ((setAll S.safe S.dirty).map Value.string)) :
    DiskIs (w2.setCell ⟨g, 2, none⟩ (.slice none 0 0)) g gn gs cn cs (.slice none 0 0) vk { S with safe := setAll S.safe S.dirty, dirty := [] } := by
  have ha := h.apart
  simp only [List.nodup_cons, List.mem_cons, List.mem_append, not_or] at ha
  have l1 : (setAll S.safe S.dirty).length = S.safe.length := setAll_length _ _
  have hb : Blk w2 g 84 #[.slice (some ⟨gn, 0, none⟩) S.now.length cn, .slice (some ⟨gs, 0, none⟩) S.safe.length cs, vd, .bool S.on, .int .i64 (S.writes : Int), .bool S.armed, .int .i64 (S.left : Int), vk] :=
    (hk.block g h.blk.lt (by simp; exact ha.1.2.1)).trans h.blk
  refine ⟨?_, row_far (row_keep h.now hk ?_) ?_ _, ?_, World.ownsRow_nil _ _ _ _, row_far (row_keep h.keep hk ?_) ?_ _, ?_⟩
  · have := hb.put 2 (.slice none 0 0)
    rw [← l1] at this
    exact this
  · intro k e hm; cases e; exact ha.2.1.1 (List.mem_singleton.1 hm)
  · intro e; cases e; exact ha.1.1 rfl
  · rw [← l1] at hs
    exact row_far hs (by intro e; cases e; exact ha.1.2.1 rfl) _
  · intro k e hm; exact ha.2.2.1.2 (by rw [e, ← List.mem_singleton.1 hm]; simp)
  · intro e; exact ha.1.2.2.2 (by simp [e])
  · refine List.Nodup.sublist ?_ h.apart
    refine List.Sublist.cons_cons _ (List.Sublist.cons_cons _ (List.Sublist.cons_cons _ ?_))
    simp [Value.ownBlock]

theorem failed_same {S : DS} (h : S.fails = false) : S.failed.now = S.now ∧ S.failed.safe = S.safe ∧ S.failed.dirty = S.dirty := by
  unfold DS.fails at h
  unfold DS.failed
  split
  · rename_i ha
    split
    · exact ⟨rfl, rfl, rfl⟩
    · rename_i h0
      rw [ha] at h
      simp at h
      omega
  · exact ⟨rfl, rfl, rfl⟩

set_option maxRecDepth 100000 in
set_option maxHeartbeats 4000000 in
theorem dflush_any {w : World} {O : List Nat} {g : Nat} {S : DS} (h : DiskAt w O g S) (hok : S.Ok) (hlb : S.left ≤ 9223372036854775807) :
    Calls Tryz.prog 82 #[.pointer (some ⟨g, 0, none⟩)] w fun e w' => e = .returned (.int .i64 S.errF) ∧ Turns O g S.flush w w' := by
  have HON := Lib.hid (don_any h)
  have H := Lib.hid h
  by_cases hon : S.on = true
  · have HF := Lib.hid (dfails_any h hok hon hlb)
    rw [hon] at HON
    by_cases hf : S.fails = true
    · have R1 : S.errF = 14 := by unfold DS.errF; rw [if_pos hon, if_pos hf]
      have R2 : S.flush = S.failed := by unfold DS.flush; rw [if_pos hon, if_pos hf]
      rw [R1, R2]
      rw [hf] at HF
      clear R1 R2 h hok hlb hon hf
      go_enter Tryz.func82, Tryz.ntmps82
      go_wp2_with (first
        | (go_at_call 28; refine HON.out.mono ?_; rintro e w1 ⟨rfl, rfl⟩)
        | (go_at_call 115; refine HF.out.mono ?_; rintro e w1 ⟨rfl, hT⟩))
      go_ret
      exact ⟨rfl, hT⟩
    · have hff : S.fails = false := by simpa using hf
      have R1 : S.errF = 0 := by unfold DS.errF; rw [if_pos hon, if_neg hf]
      have R2 : S.flush = { S.failed with safe := S.now, dirty := [] } := by unfold DS.flush; rw [if_pos hon, if_neg hf]
      rw [R1, R2]
      rw [hff] at HF
      obtain ⟨s1, s2, s3⟩ := failed_same hff
      have hok1 := hok.failed
      obtain ⟨S1, hS1⟩ : ∃ S1, S1 = S.failed := ⟨_, rfl⟩
      rw [← hS1] at HF hok1 s1 s2 s3 ⊢
      have hnow : S.now = setAll S1.safe S1.dirty := by rw [← s1, hok1.now]
      rw [hnow]
      have HOK := Lib.hid hok1
      clear R1 R2 h hok hlb hon hf hff s1 s2 s3 hS1 hnow hok1
      go_enter Tryz.func82, Tryz.ntmps82
      go_upto_region 3 with (first
        | (go_at_call 28; refine HON.out.mono ?_; rintro e w1 ⟨rfl, rfl⟩)
        | (go_at_call 115; refine HF.out.mono ?_; rintro e w1 ⟨rfl, hT⟩))
      obtain ⟨O1, ⟨gn, gs, cn, cs, vd, vk, rfl, h1⟩, hO1, hK1⟩ := hT
      obtain ⟨p, cap, rfl, hcap, hcap2, _, _⟩ := row_slice h1.dirty
      have HO1 := Lib.hid hO1
      have HK1 := Lib.hid hK1
      have H1 := Lib.hid h1
      have ha := h1.apart
      simp only [List.nodup_cons, List.mem_cons, List.mem_append, not_or] at ha
      have HN : Hid (g ≠ gn ∧ g ≠ gs ∧ gn ≠ gs) := Lib.hid ⟨ha.1.1, ha.1.2.1, ha.2.1.1⟩
      have c2 := h1.blk.cell 2
      simp at c2
      obtain ⟨n, hn⟩ : ∃ n, n = S1.dirty.length := ⟨_, rfl⟩
      obtain ⟨ns, hns⟩ : ∃ ns, ns = S1.safe.length := ⟨_, rfl⟩
      have hgl := h1.blk.lt
      rw [← hn] at c2 hcap H1
      have HDN := Lib.hid hn
      have HNS := Lib.hid hns
      have hnI : (n : Int) ≤ 9223372036854775807 := by omega
      have hs0 := h1.safe
      rw [← hns] at hs0
      have HS0 := Lib.hid hs0
      clear hs0 ha h1 hn hns hcap hcap2 hO1 hK1 HON HF
      go_wp2_with fail
      go_loopw [17] (fun i wr => ∃ j : Nat, j ≤ n ∧ i = .int .i64 j ∧ Keep [gs] w1 wr ∧ wr.ownsRow 0 9 1 (.slice (some ⟨gs, 0, none⟩) ns cs) ns ((setAll S1.safe (S1.dirty.take j)).map Value.string)) (fun i _ => n - (intOf i).toNat)
      case atStart => exact ⟨0, Nat.zero_le _, rfl, Keep.refl _ _, by simpa [setAll] using HS0.out⟩
      case round =>
        obtain ⟨j, hj, rfl, hk, hrow⟩ := hrel
        have HK := Lib.hid hk
        have HR := Lib.hid hrow
        clear hk hrow
        have HK2 : Hid (Keep [gs, gn] w1 wr) := Lib.hid (HK.out.mono (by simp))
        have hgr : g < wr.heap.size := Nat.lt_of_lt_of_le hgl HK.out.size
        have HB : Hid (Blk wr g 84 _) := Lib.hid ((HK.out.block g hgl (by simp; exact HN.out.2.1)).trans H1.out.blk)
        by_cases hlt : j < n
        · have hjd : j < S1.dirty.length := by rw [← HDN.out]; exact hlt
          obtain ⟨x, hx⟩ : ∃ x, x = S1.dirty[j] := ⟨_, rfl⟩
          have hxj : S1.dirty[j]? = some x := by rw [hx]; exact List.getElem?_eq_getElem hjd
          have hxf : x.1 < ns := by rw [HNS.out]; exact HOK.out.fits x (by rw [hx]; exact List.getElem_mem hjd)
          obtain ⟨gd, rfl, hgd, d0, d1⟩ := H1.out.elem HK2.out hxj
          have HE : Hid (setAll S1.safe (S1.dirty.take (j + 1)) = (setAll S1.safe (S1.dirty.take j)).set x.1 x.2) := Lib.hid (by rw [take_snoc hxj, setAll_snoc])
          obtain ⟨xa, xs⟩ := x
          have hxaI : (xa : Int) < (ns : Int) := by simpa using hxf
          clear hx hxj
          simp only at d0 d1 hxf HE
          go_upto_region 6 with fail
          obtain ⟨W, hW⟩ : ∃ W, W = wr.alloc (.cells #[.int .i64 (xa : Int), .string xs] 68) := ⟨_, rfl⟩
          have kW : Keep [] wr W := by rw [hW]; exact (Keep.refl _ _).alloc _
          have bW : Blk W wr.heap.size 68 #[.int .i64 (xa : Int), .string xs] := by rw [hW]; exact Blk.new wr _ _
          have e0 := bW.cell 0
          have e1 := bW.cell 1
          have g1 := (show Blk W g 84 _ from (kW.block g hgr (by simp)).trans HB.out).cell 1
          have q0 := row_cell (row_keep HR.out kW (by simp)) (i := xa) (u := .string ((setAll S1.safe (S1.dirty.take j)).getD xa .empty)) (by
            rw [List.getElem?_map, List.getD_eq_getElem?_getD, List.getElem?_eq_getElem (by rw [setAll_length, ← HNS.out]; exact hxf)]; rfl)
          have q1 := row_frozen (row_keep HR.out kW (by simp)) xa
          simp at e0 e1 g1
          rw [← HNS.out] at g1
          obtain ⟨X, hX⟩ : ∃ X, X = (setAll S1.safe (S1.dirty.take j)).getD xa .empty := ⟨_, rfl⟩
          rw [← hX] at q0
          have HKW := Lib.hid kW
          rw [← hW]
          clear hW kW bW d0 d1 hX
          go_still_tail 9, (by kernel_rfl)
          change wpList _ _ _ _ _ W.drew
          go_wp2_with fail
          go_roundw
          case rel =>
            refine ⟨j + 1, by omega, by go_num, ?_, ?_⟩
            · exact ((HK.out.trans HKW.out (by simp)).drew).put (.inl (by simp)) _ _
            · rw [HE.out, List.map_set]
              exact row_kept (row_put (row_keep HR.out HKW.out (by simp)) (i := xa) (.string xs)) (fun _ _ => rfl)
          case measure => simp [intOf]; omega
        · obtain rfl : j = n := by omega
          have hTn : S1.dirty.take j = S1.dirty := List.take_of_length_le (by rw [← HDN.out]; exact Nat.le_refl _)
          rw [hTn, HNS.out] at HR
          have HD := Lib.hid (flush_is H1.out HK.out HR.out)
          have c2' := HB.out.cell 2
          have f2' := HB.out.frozen 2
          simp at c2'
          clear hTn hlt hj HB
          go_wp2_with fail
          go_ret
          have hkk : Keep (g :: gn :: gs :: ((Value.slice p j cap).ownBlock.toList ++ vk.ownBlock.toList)) w1 (wr.setCell ⟨g, 2, none⟩ (.slice none 0 0)) := (HK.out.mono (by simp)).put (.inl (by simp)) _ _
          refine ⟨rfl, turns_comp (by rw [HDN.out]; exact HO1.out) HK1.out ⟨_, ⟨gn, gs, cn, cs, _, vk, rfl, HD.out⟩, fun b hb => ?_, hkk⟩⟩
          simp only [List.mem_cons, List.mem_append] at hb ⊢
          rcases hb with hb | hb | hb | hb | hb
          · exact .inl (.inl hb)
          · exact .inl (.inr (.inl hb))
          · exact .inl (.inr (.inr (.inl hb)))
          · simp [Value.ownBlock] at hb
          · exact .inl (.inr (.inr (.inr (.inr hb))))
  · have R1 : S.errF = 14 := by unfold DS.errF; rw [if_neg hon]
    have R2 : S.flush = S := by unfold DS.flush; rw [if_neg hon]
    rw [R1, R2]
    rw [show S.on = false by simpa using hon] at HON
    clear R1 R2 h hok hlb hon
    go_enter Tryz.func82, Tryz.ntmps82
    go_wp2_with (go_at_call 28; refine HON.out.mono ?_; rintro e w1 ⟨rfl, rfl⟩)
    go_ret
    exact ⟨rfl, Turns.refl H.out⟩
end Go.Proofs.YtdibeieiogagoaaGreatDoor
