/-
  A disk's Write, Arm. No statement is proved here.
-/
import Derived.Test.YtbaanoomilohhaaGreatDoorDiskWrite
namespace Go.Proofs.YtbaanoomilohhaaGreatDoor
open Go.RowKit

set_option maxRecDepth 100000 in
set_option maxHeartbeats 1000000 in
theorem dwrite1_any {w : World} {O : List Nat} {g : Nat} {S : DS} (at_ : Int) (data : ByteArray) (h : DiskAt w O g S) (hok : S.Ok) (hon : S.on = true) (hlb : S.left ≤ 9223372036854775807) (hwb : S.writes < 1000000000000) (hdb : S.dirty.length < 1000000000000) :
    Calls Tryz.prog 86 #[.pointer (some ⟨g, 0, none⟩), .agg #[.int .i64 at_, .string data]] w fun e w' => e = .returned (.int .i64 (S.err1 at_ data)) ∧ Turns O g (S.write1 at_ data) w w' := by
  by_cases hr : 0 ≤ at_ ∧ at_ < (S.now.length : Int)
  · by_cases hd : data.size = 256
    · obtain ⟨i, rfl⟩ : ∃ i : Nat, at_ = (i : Int) := ⟨at_.toNat, by omega⟩
      have R1 : S.err1 i data = if (S.put i data).fails then 14 else 0 := by unfold DS.err1; rw [if_pos hr, if_pos hd, Int.toNat_natCast]
      have R2 : S.write1 i data = (S.put i data).failed := by unfold DS.write1; rw [if_pos ⟨hr.1, hr.2, hd⟩, Int.toNat_natCast]
      rw [R1, R2]
      obtain ⟨gn, gs, cn, cs, vd, vk, rfl, h⟩ := h
      exact dput_any i data h hok hon (by omega) hd hlb hwb hdb
    · have R1 : S.err1 at_ data = 1 := by unfold DS.err1; rw [if_pos hr, if_neg hd]
      have R2 : S.write1 at_ data = S := by unfold DS.write1; rw [if_neg (fun h => hd h.2.2)]
      rw [R1, R2]
      have hA : ∀ o : Obj, DiskAt (w.alloc o) O g S := fun o => h.kept (fun b hb => Below.heap_alloc _ _ _ (h.lt hb))
      have HH : Hid (∀ o : Obj, Calls Tryz.prog 50 #[.pointer (some ⟨g, 0, none⟩), .int .i64 at_] (w.alloc o) fun e w' => e = .returned (.bool true) ∧ w.alloc o = w') := Lib.hid (fun o => by
        have := dhas_any at_ (hA o)
        rwa [show decide (0 ≤ at_ ∧ at_ < (S.now.length : Int)) = true by simpa using hr] at this)
      have H := Lib.hid h
      have hdn : ((data.size : Int) == 256) = false := beq_eq_false_iff_ne.2 (by omega)
      have hdm : ((data.size : Int) != 256) = true := bne_iff_ne.2 (by omega)
      clear R1 R2 hr hd h hA hok hon hlb hwb hdb
      go_enter Tryz.func86, Tryz.ntmps86
      go_wp2_with fail
      refine (HH.out _).mono ?_
      rintro e w1 ⟨rfl, rfl⟩
      go_wp2_with fail
      go_ret
      exact ⟨rfl, Turns.of_below H.out ((Below.refl _ _).alloc (Nat.le_refl _) _)⟩
  · have R1 : S.err1 at_ data = 15 := by unfold DS.err1; rw [if_neg hr]
    have R2 : S.write1 at_ data = S := by unfold DS.write1; rw [if_neg (fun h => hr ⟨h.1, h.2.1⟩)]
    rw [R1, R2]
    have hA : ∀ o : Obj, DiskAt (w.alloc o) O g S := fun o => h.kept (fun b hb => Below.heap_alloc _ _ _ (h.lt hb))
    have HH : Hid (∀ o : Obj, Calls Tryz.prog 50 #[.pointer (some ⟨g, 0, none⟩), .int .i64 at_] (w.alloc o) fun e w' => e = .returned (.bool false) ∧ w.alloc o = w') := Lib.hid (fun o => by
      have := dhas_any at_ (hA o)
      rwa [show decide (0 ≤ at_ ∧ at_ < (S.now.length : Int)) = false by simpa using hr] at this)
    have H := Lib.hid h
    clear R1 R2 hr h hA hok hon hlb hwb hdb
    go_enter Tryz.func86, Tryz.ntmps86
    go_wp2_with fail
    refine (HH.out _).mono ?_
    rintro e w1 ⟨rfl, rfl⟩
    go_wp2_with fail
    go_ret
    exact ⟨rfl, Turns.of_below H.out ((Below.refl _ _).alloc (Nat.le_refl _) _)⟩

theorem row_mono {w : World} {base base' : Nat} {e : TypeId} {size : Nat} {v : Value} {n : Nat} {xs : List Value} (h : w.ownsRow base e size v n xs) (hb : base' ≤ base) : w.ownsRow base' e size v n xs := by
  refine ⟨h.1, ?_⟩
  rcases h.2 with hn | ⟨g, cap, cur, e, hb1, rest⟩
  · exact .inl hn
  · exact .inr ⟨g, cap, cur, e, Nat.le_trans hb hb1, rest⟩
theorem turns_comp {w w1 w2 : World} {O O' : List Nat} {g : Nat} {S : DS} (hO : ∀ b ∈ O', b ∈ O ∨ w.heap.size ≤ b) (hk : Keep O w w1) (h : Turns O' g S w1 w2) : Turns O g S w w2 := by
  obtain ⟨O3, t1, t2, t3⟩ := h
  refine ⟨O3, t1, fun b hb => ?_, hk.trans t3 hO⟩
  rcases t2 b hb with h | h
  · exact hO b h
  · exact .inr (Nat.le_trans hk.size h)
theorem turns_alloc {w w2 : World} {O : List Nat} {g : Nat} {S : DS} {o : Obj} (h : Turns O g S (w.alloc o) w2) : Turns O g S w w2 :=
  Turns.after ((Below.refl _ _).alloc (Nat.le_refl _) _) h

/-- A list of writes as a slice: nil, empty or not; of blocks that O does not hold. -/
def Wrts (w : World) (O : List Nat) (A : Option Addr) (l : List (Int × ByteArray)) : Prop :=
  0 < l.length → ∃ b off, A = some ⟨b, off, none⟩ ∧ b < w.heap.size ∧ b ∉ O ∧ ∀ (j : Nat) (x : Int × ByteArray), l[j]? = some x → w.cell? ⟨b, off + j * 2, none⟩ = some (.int .i64 x.1) ∧ w.cell? ⟨b, off + j * 2 + 1, none⟩ = some (.string x.2)

theorem DS.failed_left (S : DS) : S.failed.left ≤ S.left := by
  unfold DS.failed DS.crash
  split <;> (try split) <;> (try split) <;> simp
theorem DS.write1_left (S : DS) (at_ : Int) (data : ByteArray) : (S.write1 at_ data).left ≤ S.left := by
  unfold DS.write1
  split
  · exact DS.failed_left _
  · exact Nat.le_refl _

set_option maxRecDepth 100000 in
set_option maxHeartbeats 2000000 in
theorem dwrite_any {w : World} {O : List Nat} {g : Nat} {S : DS} (A : Option Addr) (m c : Nat) (l : List (Int × ByteArray)) (h : DiskAt w O g S) (hok : S.Ok) (hl : l.length = m) (hA : Wrts w O A l) (hlb : S.left ≤ 9223372036854775807) (hwb : S.writes + m < 1000000000000) (hdb : S.dirty.length + m < 1000000000000) :
    Calls Tryz.prog 57 #[.pointer (some ⟨g, 0, none⟩), .slice A m c] w fun e w' => e = .returned (.int .i64 (S.errW l)) ∧ Turns O g (S.write l) w w' := by
  have HO := Lib.hid (don_any h)
  have H := Lib.hid h
  by_cases hon : S.on = true
  · have R1 : S.errW l = S.errL l := by unfold DS.errW; rw [if_pos hon]
    have R2 : S.write l = S.writeL l := by unfold DS.write; rw [if_pos hon]
    rw [R1, R2]
    rw [hon] at HO
    obtain ⟨ee, hee⟩ : ∃ ee, ee = S.errL l := ⟨_, rfl⟩
    rw [← hee]
    have HEE := Lib.hid hee
    have HOK := Lib.hid hok
    have HON := Lib.hid hon
    have HL := Lib.hid hl
    have HA := Lib.hid hA
    have HLB := Lib.hid hlb
    have HWB := Lib.hid hwb
    have HDB := Lib.hid hdb
    have hm : (m : Int) ≤ 9223372036854775807 := by omega
    clear R1 R2 h hok hon hl hA hee hlb hwb hdb
    go_enter Tryz.func57, Tryz.ntmps57
    go_wp2_with (go_at_call 16; refine HO.out.mono ?_; rintro e w1 ⟨rfl, rfl⟩)
    go_loopw [13] (fun i wr => ∃ (j : Nat) (T : DS), j ≤ m ∧ i = .int .i64 j ∧ Turns O g T w wr ∧ T.Ok ∧ T.on = true ∧ T.writes ≤ S.writes + j ∧ T.dirty.length ≤ S.dirty.length + j ∧ T.left ≤ S.left ∧ S.errL l = T.errL (l.drop j) ∧ S.writeL l = T.writeL (l.drop j)) (fun i _ => m - (intOf i).toNat)
    case atStart => exact ⟨0, S, Nat.zero_le _, rfl, Turns.refl H.out, HOK.out, HON.out, by omega, by omega, Nat.le_refl _, rfl, rfl⟩
    case round =>
      obtain ⟨j, T, hj, rfl, hT, hTok, hTon, hTw, hTd, hTl, he1, he2⟩ := hrel
      have HT := Lib.hid hT
      have HE1 := Lib.hid he1
      have HE2 := Lib.hid he2
      have HTO := Lib.hid hTok
      clear hT he1 he2 hTok
      by_cases hlt : j < m
      · have hjl : j < l.length := by rw [HL.out]; exact hlt
        obtain ⟨b, off, rfl, hbw, hbO, hc⟩ := HA.out (by omega)
        obtain ⟨x, hx⟩ : ∃ x, x = l[j] := ⟨_, rfl⟩
        have hxj : l[j]? = some x := by rw [hx]; exact List.getElem?_eq_getElem hjl
        have hdrop : l.drop j = x :: l.drop (j + 1) := by rw [List.drop_eq_getElem_cons hjl, hx]
        obtain ⟨d0, d1⟩ := hc j x hxj
        obtain ⟨O', hD, hO', hK⟩ := HT.out
        have hbb : wr.heap[b]? = w.heap[b]? := hK.block b hbw hbO
        have hbr : b < wr.heap.size := Nat.lt_of_lt_of_le hbw hK.size
        have d0' : wr.cell? ⟨b, off + j * 2, none⟩ = some (.int .i64 x.1) := (World.cell?_of_block (a := ⟨b, off + j * 2, none⟩) hbb).trans d0
        have d1' : wr.cell? ⟨b, off + j * 2 + 1, none⟩ = some (.string x.2) := (World.cell?_of_block (a := ⟨b, off + j * 2 + 1, none⟩) hbb).trans d1
        obtain ⟨xa, xs⟩ := x
        simp only at d0' d1'
        have HW1 : Hid (Calls Tryz.prog 86 #[.pointer (some ⟨g, 0, none⟩), .agg #[.int .i64 xa, .string xs]] (wr.alloc (.cells #[.int .i64 xa, .string xs] 39)) fun e w' => e = .returned (.int .i64 (T.err1 xa xs)) ∧ Turns O g (T.write1 xa xs) w w') := Lib.hid (by
          refine (dwrite1_any xa xs (hD.kept (fun b hb => Below.heap_alloc _ _ _ (hD.lt hb))) HTO.out hTon (by have := HLB.out; omega) (by have := HWB.out; omega) (by have := HDB.out; omega)).mono ?_
          rintro e w3 ⟨rfl, hT3⟩
          exact ⟨rfl, turns_comp hO' hK (turns_alloc hT3)⟩)
        have hlen : j + 1 ≤ m := hlt
        clear hx hxj hc d0 d1 hD hO' hK hbb hbw hbO hjl
        by_cases he : T.err1 xa xs = 0
        · have q1 : T.errL ((xa, xs) :: l.drop (j + 1)) = (T.write1 xa xs).errL (l.drop (j + 1)) := by rw [DS.errL, if_pos he]
          have q2 : T.writeL ((xa, xs) :: l.drop (j + 1)) = (T.write1 xa xs).writeL (l.drop (j + 1)) := by rw [DS.writeL, if_pos he]
          have HN := Lib.hid (And.intro (HTO.out.write1 xa xs) (And.intro (DS.write1_on he hTon) (And.intro (Nat.le_trans (DS.write1_writes T xa xs) (show T.writes + 1 ≤ S.writes + (j + 1) by omega)) (And.intro (Nat.le_trans (DS.write1_dirty T xa xs) (show T.dirty.length + 1 ≤ S.dirty.length + (j + 1) by omega)) (Nat.le_trans (DS.write1_left T xa xs) hTl)))))
          have HQ := Lib.hid (And.intro (HE1.out.trans (by rw [hdrop, q1])) (HE2.out.trans (by rw [hdrop, q2])))
          rw [he] at HW1
          clear q1 q2 he hdrop hTon hTw hTd hTl
          go_wp2_with fail
          refine HW1.out.mono ?_
          rintro e w3 ⟨rfl, hT3⟩
          go_wp2_with fail
          go_roundw
          case rel => exact ⟨j + 1, T.write1 xa xs, hlen, by go_num, hT3, HN.out.1, HN.out.2.1, HN.out.2.2.1, HN.out.2.2.2.1, HN.out.2.2.2.2, HQ.out.1, HQ.out.2⟩
          case measure => simp [intOf]; omega
        · have q1 : T.errL ((xa, xs) :: l.drop (j + 1)) = T.err1 xa xs := by rw [DS.errL, if_neg he]
          have q2 : T.writeL ((xa, xs) :: l.drop (j + 1)) = T.write1 xa xs := by rw [DS.writeL, if_neg he]
          have HQ := Lib.hid (And.intro (HE1.out.trans (by rw [hdrop, q1])) (HE2.out.trans (by rw [hdrop, q2])))
          obtain ⟨v, hv⟩ : ∃ v, v = T.err1 xa xs := ⟨_, rfl⟩
          rw [← hv] at HW1 HQ he
          have hb : (v != 0) = true := bne_iff_ne.2 he
          clear q1 q2 he hdrop hTon hTw hTd hTl hv
          go_wp2_with fail
          refine HW1.out.mono ?_
          rintro e w3 ⟨rfl, hT3⟩
          go_wp2_with fail
          go_ret
          rw [HQ.out.2, HEE.out, HQ.out.1]
          exact ⟨rfl, hT3⟩
      · obtain rfl : j = m := by omega
        have hd : l.drop j = [] := List.drop_of_length_le (by rw [HL.out]; exact Nat.le_refl _)
        have q1 : ee = 0 := by rw [HEE.out, HE1.out, hd]; rfl
        have HQ : Hid (S.writeL l = T) := Lib.hid (by rw [HE2.out, hd]; rfl)
        clear hd
        go_wp2_with fail
        go_ret
        rw [HQ.out]
        exact ⟨by rw [q1]; rfl, HT.out⟩
  · have R1 : S.errW l = 14 := by unfold DS.errW; rw [if_neg hon]
    have R2 : S.write l = S := by unfold DS.write; rw [if_neg hon]
    rw [R1, R2]
    rw [show S.on = false by simpa using hon] at HO
    clear R1 R2 h hok hon hl hA hlb hwb hdb
    go_enter Tryz.func57, Tryz.ntmps57
    go_wp2_with (go_at_call 16; refine HO.out.mono ?_; rintro e w1 ⟨rfl, rfl⟩)
    go_ret
    exact ⟨rfl, Turns.refl H.out⟩
set_option maxHeartbeats 400000 in
theorem dwrite_nil (v : Value) (w : World) :
    Calls Tryz.prog 57 #[.pointer none, v] w fun e w' => e = .returned (.int .i64 14) ∧ w = w' := by
  go_enter Tryz.func57, Tryz.ntmps57
  go_wp2_with (go_at_call 16; refine (don_nil _).mono ?_; rintro e w1 ⟨rfl, rfl⟩)
  go_ret
  exact ⟨rfl, rfl⟩
set_option maxHeartbeats 400000 in
theorem dflush_nil (w : World) :
    Calls Tryz.prog 58 #[.pointer none] w fun e w' => e = .returned (.int .i64 14) ∧ w = w' := by
  go_enter Tryz.func58, Tryz.ntmps58
  go_wp2_with (go_at_call 16; refine (don_nil _).mono ?_; rintro e w1 ⟨rfl, rfl⟩)
  go_ret
  exact ⟨rfl, rfl⟩
set_option maxHeartbeats 400000 in
theorem darm_nil (n : Int) (v : Value) (w : World) :
    Calls Tryz.prog 21 #[.pointer none, .int .i64 n, v] w fun e w' => e = .returned (.tuple #[]) ∧ w = w' := by
  go_enter Tryz.func21, Tryz.ntmps21
  go_wp2_with fail
  go_end0
  exact ⟨rfl, rfl⟩
set_option maxRecDepth 100000 in
set_option maxHeartbeats 1000000 in
theorem darm_any {w : World} {O : List Nat} {g : Nat} {S : DS} (n : Int) (A : Option Addr) (m c : Nat) (l : List Int) (h : DiskAt w O g S) (hl : l.length = m) (hA : IntsD w A l) (h0 : A = none → m = 0 ∧ c = 0) (hm : m ≤ 1000000) :
    Calls Tryz.prog 21 #[.pointer (some ⟨g, 0, none⟩), .int .i64 n, .slice A m c] w fun e w' => e = .returned (.tuple #[]) ∧ Turns O g (S.arm n l) w w' := by
  by_cases hn : n < 0
  · have R : S.arm n l = { S with armed := false, left := 0, keep := [] } := by unfold DS.arm; rw [if_pos hn]
    rw [R]
    have HD := Lib.hid (ddisarm_any h)
    clear R h hl hA h0 hm
    go_enter Tryz.func21, Tryz.ntmps21
    go_wp2_with (go_at_call 40; refine HD.out.mono ?_; rintro e w1 ⟨rfl, hT⟩)
    go_end0
    exact ⟨rfl, hT⟩
  · have R : S.arm n l = { S with armed := true, left := n.toNat, keep := l } := by unfold DS.arm; rw [if_neg hn]
    rw [R]
    obtain ⟨gn, gs, cn, cs, vd, vk, rfl, h⟩ := h
    have H := Lib.hid h
    have HL := Lib.hid hl
    have HC := Lib.hid (clints_any A m c l w hl (by
      intro ad e j u hu
      subst e
      rw [List.getElem?_map] at hu
      obtain ⟨x, hx, rfl⟩ := Option.map_eq_some_iff.1 hu
      obtain ⟨b, off, e, _, hc⟩ := hA (by
        rcases Nat.lt_or_ge j l.length with h | h
        · omega
        · rw [List.getElem?_eq_none h] at hx; cases hx)
      injection e with e
      subst e
      rw [Go.WideShapes.add_plain]
      exact hc j x hx) h0 (by omega))
    have HN : Hid (((n.toNat : Nat) : Int) = n) := Lib.hid (by omega)
    clear R h hl hA h0 hm
    go_enter Tryz.func21, Tryz.ntmps21
    go_wp2_with fail
    refine HC.out.mono ?_
    rintro e w1 ⟨v, rfl, hrow, hb⟩
    obtain ⟨pv, cv, rfl, _⟩ := row_slice hrow
    have hbk : Blk w1 g 59 _ := H.out.blk.below hb H.out.blk.lt
    have HB := Lib.hid hb
    have HR := Lib.hid hrow
    have HD1 := Lib.hid (H.out.kept (fun b hb' => hb.block b (H.out.lt hb')))
    have c5 := hbk.cell 5
    have c6 := hbk.cell 6
    have c7 := hbk.cell 7
    have f5 := hbk.frozen 5
    have f6 := hbk.frozen 6
    have f7 := hbk.frozen 7
    have hgl := hbk.lt
    simp at c5 c6 c7
    clear hbk hb hrow
    go_wp2_with fail
    go_end0
    have h1 := HD1.out
    have hvb : ∀ b, b ∈ (Value.slice pv m cv).ownBlock.toList → w.heap.size ≤ b := fun b hb => (HR.out.lt b (by simpa using hb)).1
    have ha := h1.apart
    simp only [List.nodup_cons, List.mem_cons, List.mem_append, not_or] at ha
    have hk : Keep [g] w1 (((w1.setCell ⟨g, 5, none⟩ (.bool true)).setCell ⟨g, 6, none⟩ (.int .i64 n)).setCell ⟨g, 7, none⟩ (.slice pv m cv)) := (((Keep.refl _ _).put (.inl (by simp)) _ _).put (.inl (by simp)) _ _).put (.inl (by simp)) _ _
    refine ⟨rfl, g :: gn :: gs :: (vd.ownBlock.toList ++ (Value.slice pv m cv).ownBlock.toList), ⟨gn, gs, cn, cs, vd, .slice pv m cv, rfl, ?_, row_keep h1.now hk ?_, row_keep h1.safe hk ?_, row_keep h1.dirty hk ?_, ?_, ?_⟩, ?_, ?_⟩
    · have hb := ((h1.blk.put 5 (.bool true)).put 6 (.int .i64 n)).put 7 (.slice pv m cv)
      show Blk _ g _ #[_, _, _, _, _, .bool true, .int .i64 ((n.toNat : Nat) : Int), .slice pv m cv]
      rw [HN.out]
      exact hb
    · intro k e hm; cases e; exact ha.1.1 (List.mem_singleton.1 hm).symm
    · intro k e hm; cases e; exact ha.1.2.1 (List.mem_singleton.1 hm).symm
    · intro k e hm; exact ha.1.2.2.1 (by rw [e, ← List.mem_singleton.1 hm]; simp)
    · show World.ownsRow _ 0 _ 1 (.slice pv m cv) l.length _
      rw [HL.out]
      exact row_keep (row_mono HR.out (Nat.zero_le _)) hk (by
        intro k e hm
        have := hvb k (by simp [e])
        have := H.out.blk.lt
        have := List.mem_singleton.1 hm
        omega)
    · have hlt : ∀ b ∈ g :: gn :: gs :: (vd.ownBlock.toList ++ vk.ownBlock.toList), b < w.heap.size := fun b hb => H.out.lt hb
      have hn : ∀ b ∈ g :: gn :: gs :: (vd.ownBlock.toList ++ vk.ownBlock.toList), b ∉ (Value.slice pv m cv).ownBlock.toList := fun b hb hm => by
        have := hlt b hb
        have := hvb b hm
        omega
      simp only [List.nodup_cons, List.mem_cons, List.mem_append, not_or]
      refine ⟨⟨ha.1.1, ha.1.2.1, ha.1.2.2.1, hn g (by simp)⟩, ⟨ha.2.1.1, ha.2.1.2.1, hn gn (by simp)⟩, ⟨ha.2.2.1.1, hn gs (by simp)⟩, List.nodup_append.2 ⟨(List.nodup_append.1 ha.2.2.2).1, by cases (Value.slice pv m cv).ownBlock <;> simp, fun b hb b' hb' e => ?_⟩⟩
      subst e
      exact hn b (by simp only [List.mem_cons, List.mem_append]; exact .inr (.inr (.inr (.inl hb)))) hb'
    · intro b hb
      simp only [List.mem_cons, List.mem_append] at hb ⊢
      rcases hb with hb | hb | hb | hb | hb
      · exact .inl (.inl hb)
      · exact .inl (.inr (.inl hb))
      · exact .inl (.inr (.inr (.inl hb)))
      · exact .inl (.inr (.inr (.inr (.inl hb))))
      · exact .inr (hvb b hb)
    · exact (Keep.of_below HB.out).trans hk (by intro b hb; rw [List.mem_singleton.1 hb]; exact .inl (by simp))
end Go.Proofs.YtbaanoomilohhaaGreatDoor
