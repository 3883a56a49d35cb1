/-
  Lists cloned: new rows of the same. No statement is proved here.
-/
import Derived.Test.YtiagofgcinlnhaaGreatDoorProg
import Derived.Test.YtiagofgcinlnhaaGreatDoorDiskPure
import Derived.Test.YtiagofgcinlnhaaGreatDoorShelf
import Derived.BigQuiet
import Derived.Deep.QuietTactic
import Derived.Outline
import Derived.StillTailTactics
import Derived.BigCall
import Derived.Lib.SliceRun
import Derived.Deep.AppendLies
namespace Go.Proofs.YtiagofgcinlnhaaGreatDoor
open Go.RowKit
def InAt (w : World) (g : Nat) (s : Rd) : Prop := Blk w g 206 #[.string s.b, .int .i64 s.e]
set_option maxHeartbeats 400000 in
theorem in_fail_new (g : Nat) (s : Rd) (c : Int) (w : World) (h : InAt w g s) (he : s.e = 0) :
    Calls Tryz.prog 174 #[.pointer (some ⟨g, 0, none⟩), .int .i64 c] w fun e w' => e = .returned (.tuple #[]) ∧ InAt w' g ⟨.empty, c⟩ ∧ w.grownBy w' (some g) := by
  obtain ⟨b, e⟩ := s
  simp only at he
  subst he
  have c0 := Blk.cell h 0
  have c1 := Blk.cell h 1
  have f0 := Blk.frozen h 0
  have f1 := Blk.frozen h 1
  have hl := Blk.lt h
  simp at c0 c1
  go_enter Tryz.func174, Tryz.ntmps174
  go_wp2
  go_end0
  exact ⟨rfl, (Blk.put h 0 _).put 1 _, by_put (by_put (by_refl _ _) _ _) _ _⟩
set_option maxHeartbeats 400000 in
theorem take_any (g : Nat) (s : Rd) (n : Int) (w : World) (h : InAt w g s) (hb : s.b.size ≤ 140737488351232) :
    Calls Tryz.prog 173 #[.pointer (some ⟨g, 0, none⟩), .int .i64 n] w fun e w' =>
      e = .returned (.tuple #[.string (s.take n).1, .bool (s.take n).2.1]) ∧ InAt w' g (s.take n).2.2 ∧ w.grownBy w' (some g) := by
  have H := h
  obtain ⟨b, e⟩ := s
  have c0 := Blk.cell h 0
  have c1 := Blk.cell h 1
  have f0 := Blk.frozen h 0
  have f1 := Blk.frozen h 1
  have hl := Blk.lt h
  simp at c0 c1 hb
  by_cases he : e = 0
  · subst he
    by_cases h0 : n < 0
    · have R : (Rd.mk b 0).take n = (.empty, false, ⟨.empty, 1⟩) := by simp [Rd.take, h0]
      rw [R]
      clear R
      go_enter Tryz.func173, Tryz.ntmps173
      go_wp2_with (go_at_call 174; refine (in_fail_new g _ 1 _ h rfl).mono ?_; rintro e w1 ⟨rfl, h1, hg1⟩)
      go_ret2
      exact ⟨rfl, h1, hg1⟩
    · have h0' : 0 ≤ n := by omega
      by_cases h1 : (b.size : Int) < n
      · have R : (Rd.mk b 0).take n = (.empty, false, ⟨.empty, 5⟩) := by simp [Rd.take, h0, h1]
        rw [R]
        clear R h0
        go_enter Tryz.func173, Tryz.ntmps173
        go_wp2_with (go_at_call 174; refine (in_fail_new g _ 5 _ h rfl).mono ?_; rintro e w1 ⟨rfl, h1, hg1⟩)
        go_ret2
        exact ⟨rfl, h1, hg1⟩
      · have h1' : n ≤ (b.size : Int) := by omega
        have R : (Rd.mk b 0).take n = (b.extract 0 n.toNat, true, ⟨b.extract n.toNat b.size, 0⟩) := by simp [Rd.take, h0, h1]
        rw [R]
        clear R h0 h1
        go_enter Tryz.func173, Tryz.ntmps173
        go_wp2_with fail
        go_ret2
        exact ⟨rfl, Blk.put h 0 _, by_put (by_refl _ _) _ _⟩
  · have R : (Rd.mk b e).take n = (.empty, false, ⟨b, e⟩) := by simp [Rd.take, he]
    rw [R]
    clear R
    have hc : (e != 0) = true := by rw [bne_iff_ne]; exact he
    go_enter Tryz.func173, Tryz.ntmps173
    go_wp2_with fail
    go_ret2
    exact ⟨rfl, h, by_refl _ _⟩
theorem low_next {x : ByteArray} {j k : Nat} (hs : x.size = k) (hj : j < k) (hk : k ≤ 8) :
    bits .or .u64 (low (x.data.toList.take j) : Int) (IntKind.u64.wrap (IntKind.u64.wrap ((x[j]'(by omega)).toNat : Int) * 2 ^ (8 * j))) = (low (x.data.toList.take (j + 1)) : Int) := by
  have hl : (x.data.toList.take j).length = j := by
    rw [List.length_take, Array.length_toList]
    have : x.data.size = k := hs
    omega
  rw [low_or _ _ j hl (by omega)]
  congr 2
  rw [List.take_succ_eq_append_getElem (by rw [Array.length_toList]; have : x.data.size = k := hs; omega)]
  rfl
set_option maxHeartbeats 1000000 in
theorem number_any (g : Nat) (s : Rd) (k : Nat) (w : World) (h : InAt w g s) (hb : s.b.size ≤ 140737488351232) (hk : k ≤ 8) :
    Calls Tryz.prog 161 #[.pointer (some ⟨g, 0, none⟩), .int .i64 k] w fun e w' =>
      e = .returned (.int .i64 (s.num k).1) ∧ InAt w' g (s.num k).2 ∧ w.grownBy w' (some g) := by
  by_cases ht : (s.take k).2.1 = true
  · have hsz := Rd.take_size ht
    have h0 : (s.take k).2.2.e = 0 := by rw [(Rd.take_yes ht).2.2.2.2]
    have hL : low (s.take k).1.data.toList < 18446744073709551616 :=
      Nat.lt_of_lt_of_le (low_lt _) (by rw [Array.length_toList]; exact Nat.le_trans (Nat.pow_le_pow_right (by omega) (show (s.take k).1.data.size ≤ 8 from by have : (s.take k).1.data.size = k := hsz; omega)) (by decide))
    have Hnum : Hid (s.num k = (if 9223372036854775807 < (low (s.take k).1.data.toList : Int) then (0, ⟨.empty, 6⟩) else ((low (s.take k).1.data.toList : Int), (s.take k).2.2))) := Lib.hid (by unfold Rd.num; rw [if_pos ht])
    have H0 := Lib.hid h0
    clear h0
    go_enter Tryz.func161, Tryz.ntmps161
    go_wp2_with (go_at_call 173; refine (take_any g s k _ h hb).mono ?_; rintro e w1 ⟨rfl, h1, hg1⟩)
    generalize (s.take k).1 = x at *
    generalize (s.take k).2.2 = s1 at *
    have Hsz := Lib.hid hsz
    have hsz1 : x.size ≤ k := by omega
    have hsz2 : k ≤ x.size := by omega
    clear hsz
    go_loop [7, 18] (fun n i => ∃ j : Nat, j ≤ k ∧ i = .int .i64 j ∧ n = .int .u64 (low (x.data.toList.take j))) (fun _ i => k - (intOf i).toNat)
    case atStart => exact ⟨0, Nat.zero_le _, rfl, rfl⟩
    case round =>
      obtain ⟨j, hj, rfl, rfl⟩ := hrel
      by_cases hlt : j < k
      · go_wp2
        go_round
        case rel => exact ⟨j + 1, by omega, by go_num, by rw [low_next Hsz.out hlt hk]⟩
        case measure => simp [intOf]; omega
      · have hjk : x.data.toList.take j = x.data.toList := List.take_of_length_le (by rw [Array.length_toList]; show x.size ≤ j; omega)
        rw [hjk]
        clear hjk
        generalize hV : low x.data.toList = V at *
        have HV := Lib.hid hV
        clear hV
        by_cases hbig : 9223372036854775807 < (V : Int)
        · go_wp2_with (go_at_call 174; refine (in_fail_new g s1 6 _ h1 H0.out).mono ?_; rintro e w2 ⟨rfl, h2, hg2⟩)
          go_ret
          rw [Hnum.out, if_pos hbig]
          exact ⟨rfl, h2, by_trans hg1 hg2⟩
        · go_wp2_with fail
          go_ret
          rw [Hnum.out, if_neg (by omega)]
          exact ⟨rfl, h1, hg1⟩
  · have Hnum : Hid (s.num k = (0, (s.take k).2.2)) := Lib.hid (by unfold Rd.num; rw [if_neg ht])
    have hf : (s.take k).2.1 = false := by simpa using ht
    go_enter Tryz.func161, Tryz.ntmps161
    go_wp2_with (go_at_call 173; refine (take_any g s k _ h hb).mono ?_; rintro e w1 ⟨rfl, h1, hg1⟩)
    go_ret
    rw [Hnum.out]
    exact ⟨rfl, h1, hg1⟩
set_option maxHeartbeats 400000 in
theorem in_byte (g : Nat) (s : Rd) (w : World) (h : InAt w g s) (hb : s.b.size ≤ 140737488351232) :
    Calls Tryz.prog 133 #[.pointer (some ⟨g, 0, none⟩)] w fun e w' => e = .returned (.int .i64 (s.num 1).1) ∧ InAt w' g (s.num 1).2 ∧ w.grownBy w' (some g) := by
  go_enter Tryz.func133, Tryz.ntmps133
  go_wp2_with (go_at_call 161; refine (number_any g s 1 _ h hb (by omega)).mono ?_; rintro e w1 ⟨rfl, h1, hg1⟩)
  go_ret
  exact ⟨rfl, h1, hg1⟩
set_option maxHeartbeats 400000 in
theorem in_half (g : Nat) (s : Rd) (w : World) (h : InAt w g s) (hb : s.b.size ≤ 140737488351232) :
    Calls Tryz.prog 134 #[.pointer (some ⟨g, 0, none⟩)] w fun e w' => e = .returned (.int .i64 (s.num 2).1) ∧ InAt w' g (s.num 2).2 ∧ w.grownBy w' (some g) := by
  go_enter Tryz.func134, Tryz.ntmps134
  go_wp2_with (go_at_call 161; refine (number_any g s 2 _ h hb (by omega)).mono ?_; rintro e w1 ⟨rfl, h1, hg1⟩)
  go_ret
  exact ⟨rfl, h1, hg1⟩
set_option maxHeartbeats 400000 in
theorem in_word (g : Nat) (s : Rd) (w : World) (h : InAt w g s) (hb : s.b.size ≤ 140737488351232) :
    Calls Tryz.prog 132 #[.pointer (some ⟨g, 0, none⟩)] w fun e w' => e = .returned (.int .i64 (s.num 4).1) ∧ InAt w' g (s.num 4).2 ∧ w.grownBy w' (some g) := by
  go_enter Tryz.func132, Tryz.ntmps132
  go_wp2_with (go_at_call 161; refine (number_any g s 4 _ h hb (by omega)).mono ?_; rintro e w1 ⟨rfl, h1, hg1⟩)
  go_ret
  exact ⟨rfl, h1, hg1⟩
set_option maxHeartbeats 400000 in
theorem in_long (g : Nat) (s : Rd) (w : World) (h : InAt w g s) (hb : s.b.size ≤ 140737488351232) :
    Calls Tryz.prog 160 #[.pointer (some ⟨g, 0, none⟩)] w fun e w' => e = .returned (.int .i64 (s.num 8).1) ∧ InAt w' g (s.num 8).2 ∧ w.grownBy w' (some g) := by
  go_enter Tryz.func160, Tryz.ntmps160
  go_wp2_with (go_at_call 161; refine (number_any g s 8 _ h hb (by omega)).mono ?_; rintro e w1 ⟨rfl, h1, hg1⟩)
  go_ret
  exact ⟨rfl, h1, hg1⟩
set_option maxHeartbeats 400000 in
theorem clone_any (s : ByteArray) (w : World) (hlim : s.size ≤ 281474976710656) :
    Calls Tryz.prog 64 #[.string s] w fun e w' => e = .returned (.string s) ∧ Below w.heap.size w w' := by
  go_enter Tryz.func64, Tryz.ntmps64
  go_wp2_with (go_at_call 106; refine (clone_lite s _ hlim).mono ?_; rintro e w1 ⟨rfl, hb1⟩)
  go_ret
  exact ⟨rfl, hb1⟩
set_option maxHeartbeats 400000 in
theorem on_any (b : ByteArray) (w : World) (hb : b.size ≤ 140737488351232) :
    Calls Tryz.prog 131 #[.string b] w fun e w' => ∃ g, e = .returned (.pointer (some ⟨g, 0, none⟩)) ∧ w.heap.size ≤ g ∧ InAt w' g ⟨b, 0⟩ ∧ Below w.heap.size w w' := by
  go_enter Tryz.func131, Tryz.ntmps131
  go_wp2_with (go_at_call 64; refine (clone_any b _ (by omega)).mono ?_; rintro e w1 ⟨rfl, hb1⟩)
  go_ret
  exact ⟨_, rfl, hb1.size, Blk.new _ _ _, hb1.alloc hb1.size _⟩
/- A reader that is nil. -/
set_option maxHeartbeats 400000 in
theorem don_any {O : List Nat} {g : Nat} {S : DS} {w : World} (h : DiskAt w O g S) :
    Calls Tryz.prog 25 #[.pointer (some ⟨g, 0, none⟩)] w fun e w' => e = .returned (.bool S.on) ∧ w = w' := by
  obtain ⟨gn, gs, cn, cs, vd, vk, _, h⟩ := h
  have c3 := h.blk.cell 3
  simp at c3
  clear h
  go_enter Tryz.func25, Tryz.ntmps25
  go_wp2_with fail
  go_ret
  exact ⟨rfl, rfl⟩
set_option maxHeartbeats 400000 in
theorem dsize_any {O : List Nat} {g : Nat} {S : DS} {w : World} (h : DiskAt w O g S) :
    Calls Tryz.prog 65 #[.pointer (some ⟨g, 0, none⟩)] w fun e w' => e = .returned (.int .i64 (S.now.length : Int)) ∧ w = w' := by
  obtain ⟨gn, gs, cn, cs, vd, vk, _, h⟩ := h
  have c0 := h.blk.cell 0
  simp at c0
  clear h
  go_enter Tryz.func65, Tryz.ntmps65
  go_wp2_with fail
  go_ret
  exact ⟨rfl, rfl⟩
set_option maxHeartbeats 400000 in
theorem dhas_any {O : List Nat} {g : Nat} {S : DS} {w : World} (at_ : Int) (h : DiskAt w O g S) :
    Calls Tryz.prog 128 #[.pointer (some ⟨g, 0, none⟩), .int .i64 at_] w fun e w' => e = .returned (.bool (decide (0 ≤ at_ ∧ at_ < (S.now.length : Int)))) ∧ w = w' := by
  obtain ⟨gn, gs, cn, cs, vd, vk, _, h⟩ := h
  have c0 := h.blk.cell 0
  simp at c0
  clear h
  obtain ⟨n, hn⟩ : ∃ n, n = S.now.length := ⟨_, rfl⟩
  rw [← hn] at c0 ⊢
  clear hn
  by_cases h0 : 0 ≤ at_
  · have e : decide (0 ≤ at_ ∧ at_ < (n : Int)) = decide (at_ < (n : Int)) := by simp [h0]
    rw [e]
    clear e
    go_enter Tryz.func128, Tryz.ntmps128
    go_wp2_with fail
    go_ret
    exact ⟨rfl, rfl⟩
  · have e : decide (0 ≤ at_ ∧ at_ < (n : Int)) = false := by simp; omega
    rw [e]
    clear e
    go_enter Tryz.func128, Tryz.ntmps128
    go_wp2_with fail
    go_ret
    exact ⟨rfl, rfl⟩
set_option maxHeartbeats 1000000 in
theorem ddisarm_any {O : List Nat} {g : Nat} {S : DS} {w : World} (h : DiskAt w O g S) :
    Calls Tryz.prog 62 #[.pointer (some ⟨g, 0, none⟩)] w fun e w' => e = .returned (.tuple #[]) ∧ Turns O g { S with armed := false, left := 0, keep := [] } w w' := by
  obtain ⟨gn, gs, cn, cs, vd, vk, rfl, h⟩ := h
  have H := Lib.hid h
  have c5 := h.blk.cell 5
  have c6 := h.blk.cell 6
  have c7 := h.blk.cell 7
  have f5 := h.blk.frozen 5
  have f6 := h.blk.frozen 6
  have f7 := h.blk.frozen 7
  have hl := h.blk.lt
  simp at c5 c6 c7
  clear h
  go_enter Tryz.func62, Tryz.ntmps62
  go_wp2
  go_end0
  refine ⟨rfl, g :: gn :: gs :: (vd.ownBlock.toList ++ []), ⟨gn, gs, cn, cs, vd, .slice none 0 0, rfl, ?_⟩, ?_, ?_⟩
  · have h := H.out
    have ha := h.apart
    simp only [List.nodup_cons, List.mem_cons, List.mem_append, not_or] at ha
    have far : ∀ {v : Value} {e : TypeId} {size n : Nat} {xs : List Value}, w.ownsRow 0 e size v n xs → v.ownBlock ≠ some g → (((w.setCell ⟨g, 5, none⟩ (.bool false)).setCell ⟨g, 6, none⟩ (.int .i64 0)).setCell ⟨g, 7, none⟩ (.slice none 0 0)).ownsRow 0 e size v n xs :=
      fun hr hn => row_far (row_far (row_far hr hn _) hn _) hn _
    refine ⟨((h.blk.put 5 _).put 6 _).put 7 _, far h.now ?_, far h.safe ?_, far h.dirty ?_, World.ownsRow_nil _ _ _ _, ?_⟩
    · intro e; cases e; exact ha.1.1 rfl
    · intro e; cases e; exact ha.1.2.1 rfl
    · intro e; exact ha.1.2.2.1 (by simp [e])
    · have := h.apart
      refine List.Nodup.sublist ?_ this
      refine List.Sublist.cons_cons _ (List.Sublist.cons_cons _ (List.Sublist.cons_cons _ ?_))
      simp [Value.ownBlock]
  · intro b hb
    left
    simp only [List.append_nil, List.mem_cons, List.mem_append] at hb ⊢
    rcases hb with hb | hb | hb | hb
    · exact .inl hb
    · exact .inr (.inl hb)
    · exact .inr (.inr (.inl hb))
    · exact .inr (.inr (.inr (.inl hb)))
  · exact (((Keep.refl _ _).put (.inl (by simp)) _ _).put (.inl (by simp)) _ _).put (.inl (by simp)) _ _
theorem DiskIs.put_plain {w : World} {g gn gs cn cs : Nat} {vd vk : Value} {S : DS} (h : DiskIs w g gn gs cn cs vd vk S) (on armed : Bool) (writes left : Nat) (w' : World)
    (hb : Blk w' g 75 #[.slice (some ⟨gn, 0, none⟩) S.now.length cn, .slice (some ⟨gs, 0, none⟩) S.safe.length cs, vd, .bool on, .int .i64 (writes : Int), .bool armed, .int .i64 (left : Int), vk])
    (hk : Keep [g] w w') : DiskIs w' g gn gs cn cs vd vk { S with on := on, writes := writes, armed := armed, left := left } := by
  have ha := h.apart
  simp only [List.nodup_cons, List.mem_cons, List.mem_append, not_or] at ha
  refine ⟨hb, row_keep h.now hk ?_, row_keep h.safe hk ?_, row_keep h.dirty hk ?_, row_keep h.keep hk ?_, h.apart⟩
  · intro k e hm; cases e; exact ha.1.1 (List.mem_singleton.1 hm).symm
  · intro k e hm; cases e; exact ha.1.2.1 (List.mem_singleton.1 hm).symm
  · intro k e hm; exact ha.1.2.2.1 (by rw [e, ← List.mem_singleton.1 hm]; simp)
  · intro k e hm; exact ha.1.2.2.2 (by rw [e, ← List.mem_singleton.1 hm]; simp)
set_option maxHeartbeats 400000 in
theorem drestore_any {O : List Nat} {g : Nat} {S : DS} {w : World} (h : DiskAt w O g S) :
    Calls Tryz.prog 27 #[.pointer (some ⟨g, 0, none⟩)] w fun e w' => e = .returned (.tuple #[]) ∧ Turns O g S.restore w w' := by
  obtain ⟨gn, gs, cn, cs, vd, vk, rfl, h⟩ := h
  have H := Lib.hid h
  have c3 := h.blk.cell 3
  have f3 := h.blk.frozen 3
  have hl := h.blk.lt
  simp at c3
  clear h
  go_enter Tryz.func27, Tryz.ntmps27
  go_wp2
  go_end0
  refine ⟨rfl, _, ⟨gn, gs, cn, cs, vd, vk, rfl, H.out.put_plain true _ _ _ _ (H.out.blk.put 3 _) ((Keep.refl _ _).put (.inl (by simp)) _ _)⟩, fun b hb => .inl hb, (Keep.refl _ _).put (.inl (by simp)) _ _⟩
set_option maxHeartbeats 1000000 in
theorem dread_any {O : List Nat} {g : Nat} {S : DS} {w : World} (at_ : Int) (h : DiskAt w O g S) (hz : ∀ x ∈ S.now, x.size ≤ 100000) :
    Calls Tryz.prog 100 #[.pointer (some ⟨g, 0, none⟩), .int .i64 at_] w fun e w' => e = .returned (.tuple #[.string (S.read at_), .int .i64 (S.errR at_)]) ∧ Below w.heap.size w w' := by
  have HD := Lib.hid h
  by_cases ho : S.on = true
  · by_cases hr : 0 ≤ at_ ∧ at_ < (S.now.length : Int)
    · obtain ⟨i, rfl⟩ : ∃ i : Nat, at_ = (i : Int) := ⟨at_.toNat, by omega⟩
      have hi : i < S.now.length := by omega
      obtain ⟨x, hx⟩ : ∃ x, x = S.now[i] := ⟨_, rfl⟩
      have hxi : S.now[i]? = some x := by rw [hx]; exact List.getElem?_eq_getElem hi
      have HX : Hid (x.size ≤ 100000) := Lib.hid (hz x (by rw [hx]; exact List.getElem_mem hi))
      have R1 : S.read i = x := by unfold DS.read; rw [if_pos ⟨ho, hr⟩, Int.toNat_natCast, List.getD_eq_getElem?_getD, hxi]; rfl
      have R2 : S.errR i = 0 := by unfold DS.errR; rw [if_pos ho, if_pos hr]
      rw [R1, R2]
      obtain ⟨gn, gs, cn, cs, vd, vk, _, h⟩ := h
      have c0 := h.blk.cell 0
      simp at c0
      have cx := row_cell h.now (i := i) (u := .string x) (by rw [List.getElem?_map, hxi]; rfl)
      have HO := Lib.hid (fun w' (e : w = w') => e ▸ don_any (w := w) HD.out)
      have HH := Lib.hid (dhas_any (w := w) (i : Int) HD.out)
      rw [ho] at HO
      rw [show decide (0 ≤ (i : Int) ∧ (i : Int) < (S.now.length : Int)) = true by simpa using hi] at HH
      obtain ⟨n, hn⟩ : ∃ n, n = S.now.length := ⟨_, rfl⟩
      rw [← hn] at c0 hi
      clear R1 R2 hr h hxi hx hz hn ho HD
      go_enter Tryz.func100, Tryz.ntmps100
      go_wp2_with (first
        | (go_at_call 25; refine (HO.out _ rfl).mono ?_; rintro e w1 ⟨rfl, rfl⟩)
        | (go_at_call 128; refine HH.out.mono ?_; rintro e w1 ⟨rfl, rfl⟩)
        | (go_at_call 64; refine (clone_any x _ (by have := HX.out; omega)).mono ?_; rintro e w1 ⟨rfl, hb1⟩))
      go_ret2
      exact ⟨rfl, hb1⟩
    · have R1 : S.read at_ = .empty := by unfold DS.read; rw [if_neg (fun h => hr h.2)]
      have R2 : S.errR at_ = 15 := by unfold DS.errR; rw [if_pos ho, if_neg hr]
      rw [R1, R2]
      have HO := Lib.hid (don_any (w := w) HD.out)
      have HH := Lib.hid (dhas_any (w := w) at_ HD.out)
      rw [ho] at HO
      rw [show decide (0 ≤ at_ ∧ at_ < (S.now.length : Int)) = false by simpa using hr] at HH
      clear R1 R2 hr h hz ho HD
      go_enter Tryz.func100, Tryz.ntmps100
      go_wp2_with (first
        | (go_at_call 25; refine HO.out.mono ?_; rintro e w1 ⟨rfl, rfl⟩)
        | (go_at_call 128; refine HH.out.mono ?_; rintro e w1 ⟨rfl, rfl⟩))
      go_ret2
      exact ⟨rfl, Below.refl _ _⟩
  · have R1 : S.read at_ = .empty := by unfold DS.read; rw [if_neg (fun h => ho h.1)]
    have R2 : S.errR at_ = 14 := by unfold DS.errR; rw [if_neg ho]
    rw [R1, R2]
    have HO := Lib.hid (don_any (w := w) HD.out)
    rw [show S.on = false by simpa using ho] at HO
    clear R1 R2 h hz ho HD
    go_enter Tryz.func100, Tryz.ntmps100
    go_wp2_with (go_at_call 25; refine HO.out.mono ?_; rintro e w1 ⟨rfl, rfl⟩)
    go_ret2
    exact ⟨rfl, Below.refl _ _⟩
def IntsD (w : World) (A : Option Addr) (l : List Int) : Prop :=
  0 < l.length → ∃ b off, A = some ⟨b, off, none⟩ ∧ b < w.heap.size ∧ ∀ (j : Nat) (x : Int), l[j]? = some x → w.cell? ⟨b, off + j, none⟩ = some (.int .i64 x)
theorem IntsD.nil (w : World) (A : Option Addr) : IntsD w A [] := fun h => absurd h (by simp)
theorem IntsD.below {w w' : World} {A : Option Addr} {l : List Int} (h : IntsD w A l) (hb : Below w.heap.size w w') : IntsD w' A l := fun hp => by
  obtain ⟨b, off, e, hl, hc⟩ := h hp
  exact ⟨b, off, e, Nat.lt_of_lt_of_le hl hb.size, fun j x hx => (hb.cell (p := ⟨b, off + j, none⟩) hl).trans (hc j x hx)⟩
def FarInts (A : Option Addr) (l : List Int) (O : List Nat) : Prop := 0 < l.length → ∀ a, A = some a → a.block ∉ O
theorem odd_tmod {x : Int} (h : oddI x = true) : ¬ x.tmod 2 = 0 := by
  have h1 : x % 2 = 1 := by simpa [oddI] using h
  intro h
  have := Int.emod_emod_of_dvd x (show (2 : Int) ∣ 2 from ⟨1, rfl⟩)
  have h2 : (2 : Int) ∣ x := Int.dvd_of_tmod_eq_zero h
  omega
theorem even_tmod {x : Int} (h : oddI x = false) : x.tmod 2 = 0 := by
  have h1 : ¬ x % 2 = 1 := by simpa [oddI] using h
  have h2 : (2 : Int) ∣ x := by omega
  exact Int.tmod_eq_zero_of_dvd h2
theorem take_snoc {α : Type} {l : List α} {j : Nat} {x : α} (h : l[j]? = some x) : l.take (j + 1) = l.take j ++ [x] := by rw [List.take_add_one, h]; rfl
theorem kept_next {l : List Int} {D : List (Nat × ByteArray)} {j : Nat} {x : Nat × ByteArray} (h : D[j]? = some x) (hj : j < D.length) (s : List ByteArray) :
    keptL l 0 (D.take (j + 1)) s = if oddI (l.getD j 0) then (keptL l 0 (D.take j) s).set x.1 x.2 else keptL l 0 (D.take j) s := by
  rw [take_snoc h, keptL_snoc]
  have e : 0 + (D.take j).length = j := by rw [List.length_take]; omega
  rw [e]
theorem lost_next {l : List Int} {D : List (Nat × ByteArray)} {j : Nat} {x : Nat × ByteArray} (h : D[j]? = some x) (hj : j < D.length) :
    lostN l 0 (D.take (j + 1)) = lostN l 0 (D.take j) + if oddI (l.getD j 0) then 0 else 1 := by
  rw [take_snoc h, lostN_snoc]
  have e : 0 + (D.take j).length = j := by rw [List.length_take]; omega
  rw [e]
theorem DiskIs.elem {w wr : World} {g gn gs cn cs : Nat} {p : Option Addr} {n cap : Nat} {vk : Value} {S : DS} (h : DiskIs w g gn gs cn cs (.slice p n cap) vk S) (hk : Keep [gs, gn] w wr) {j : Nat} {x : Nat × ByteArray} (hx : S.dirty[j]? = some x) :
    ∃ gd, p = some ⟨gd, 0, none⟩ ∧ gd < wr.heap.size ∧ wr.cell? ⟨gd, j * 2, none⟩ = some (.int .i64 ((x.1 : Nat) : Int)) ∧ wr.cell? ⟨gd, j * 2 + 1, none⟩ = some (.string x.2) := by
  have hj : j < S.dirty.length := by
    rcases Nat.lt_or_ge j S.dirty.length with h | h
    · exact h
    · rw [List.getElem?_eq_none h] at hx; cases hx
  have hd := h.dirty
  obtain ⟨gd, cap', e, _, hlt⟩ := hd.form (by omega)
  injection e with e1 e2 e3
  subst e1 e2 e3
  have ha := h.apart
  simp only [List.nodup_cons, List.mem_cons, List.mem_append, not_or] at ha
  have hne : gd ∉ [gs, gn] := by
    intro hm
    rcases List.mem_cons.1 hm with rfl | hm
    · exact ha.2.2.1.1 (by simp [Value.ownBlock])
    · obtain rfl := List.mem_singleton.1 hm
      exact ha.2.1.2.1 (by simp [Value.ownBlock])
  have hb : wr.heap[gd]? = w.heap[gd]? := hk.block gd hlt hne
  obtain ⟨h1, h2⟩ := flatW_get hx
  refine ⟨gd, rfl, Nat.lt_of_lt_of_le hlt hk.size, ?_, ?_⟩
  · rw [Nat.mul_comm j 2, World.cell?_of_block (a := ⟨gd, 2 * j, none⟩) hb]
    exact row_cell hd h1
  · rw [Nat.mul_comm j 2, World.cell?_of_block (a := ⟨gd, 2 * j + 1, none⟩) hb]
    exact row_cell hd h2
theorem crash_is {w w2 : World} {g gn gs cn cs : Nat} {vd vk : Value} {S : DS} (h : DiskIs w g gn gs cn cs vd vk S) (hok : S.Ok) (l : List Int) (hk : Keep [gs, gn] w w2)
    (hs : w2.ownsRow 0 9 1 (.slice (some ⟨gs, 0, none⟩) S.safe.length cs) S.safe.length ((keptL l 0 S.dirty S.safe).map Value.string))
    (hn : w2.ownsRow 0 9 1 (.slice (some ⟨gn, 0, none⟩) S.now.length cn) S.now.length ((keptL l 0 S.dirty S.safe).map Value.string)) :
    DiskIs ((w2.setCell ⟨g, 3, none⟩ (.bool false)).setCell ⟨g, 2, none⟩ (.slice none 0 0)) g gn gs cn cs (.slice none 0 0) vk { S with now := keptL l 0 S.dirty S.safe, safe := keptL l 0 S.dirty S.safe, dirty := [], on := false } := by
  have ha := h.apart
  simp only [List.nodup_cons, List.mem_cons, List.mem_append, not_or] at ha
  have l1 : (keptL l 0 S.dirty S.safe).length = S.safe.length := keptL_length _ _ _ _
  have l2 : (keptL l 0 S.dirty S.safe).length = S.now.length := by rw [l1, hok.len]
  have hb : Blk w2 g 75 #[.slice (some ⟨gn, 0, none⟩) S.now.length cn, .slice (some ⟨gs, 0, none⟩) S.safe.length cs, vd, .bool S.on, .int .i64 (S.writes : Int), .bool S.armed, .int .i64 (S.left : Int), vk] :=
    (hk.block g h.blk.lt (by simp; exact ⟨ha.1.2.1, ha.1.1⟩)).trans h.blk
  have far : ∀ {v : Value} {e : TypeId} {size n : Nat} {xs : List Value}, w2.ownsRow 0 e size v n xs → v.ownBlock ≠ some g → ((w2.setCell ⟨g, 3, none⟩ (.bool false)).setCell ⟨g, 2, none⟩ (.slice none 0 0)).ownsRow 0 e size v n xs :=
    fun hr hn => row_far (row_far hr hn _) hn _
  refine ⟨?_, ?_, ?_, World.ownsRow_nil _ _ _ _, far (row_keep h.keep hk ?_) ?_, ?_⟩
  · have := (hb.put 3 (.bool false)).put 2 (.slice none 0 0)
    rw [← l2] at this
    rw [← l1] at this
    exact this
  · rw [← l2] at hn
    exact far hn (by intro e; cases e; exact ha.1.1 rfl)
  · rw [← l1] at hs
    exact far hs (by intro e; cases e; exact ha.1.2.1 rfl)
  · intro k e hm
    rcases List.mem_cons.1 hm with rfl | hm
    · exact ha.2.2.1.2 (by simp [e])
    · obtain rfl := List.mem_singleton.1 hm
      exact ha.2.1.2.2 (by simp [e])
  · intro e; exact ha.1.2.2.2 (by simp [e])
  · refine List.Nodup.sublist ?_ h.apart
    refine List.Sublist.cons_cons _ (List.Sublist.cons_cons _ (List.Sublist.cons_cons _ ?_))
    simp [Value.ownBlock]
set_option maxRecDepth 100000 in
set_option maxHeartbeats 4000000 in
theorem dcrash_on {w : World} {g gn gs cn cs : Nat} {vd vk : Value} {S : DS} (A : Option Addr) (m c : Nat) (l : List Int) (h : DiskIs w g gn gs cn cs vd vk S) (hok : S.Ok) (hon : S.on = true) (hl : l.length = m) (hA : IntsD w A l) (hfar : FarInts A l [g, gn, gs]) :
    Calls Tryz.prog 30 #[.pointer (some ⟨g, 0, none⟩), .slice A m c] w fun e w' => e = .returned (.int .i64 (S.lost l : Int)) ∧ Turns (g :: gn :: gs :: (vd.ownBlock.toList ++ vk.ownBlock.toList)) g (S.crash l) w w' := by
  obtain ⟨p, cap, rfl, hcap, hcap2, _, _⟩ := row_slice h.dirty
  have R1 : S.lost l = lostN l 0 S.dirty := by unfold DS.lost; rw [if_pos hon]
  have R2 : S.crash l = { now := keptL l 0 S.dirty S.safe, safe := keptL l 0 S.dirty S.safe, dirty := [], on := false, writes := S.writes, armed := false, left := 0, keep := [] } := by unfold DS.crash; rw [if_pos hon]
  rw [R1, R2]
  clear R1 R2
  have HON : Hid (Calls Tryz.prog 25 #[.pointer (some ⟨g, 0, none⟩)] w fun e w' => e = .returned (.bool true) ∧ w = w') := Lib.hid (by
    have := don_any (w := w) (O := _) (g := g) (S := S) ⟨gn, gs, cn, cs, _, vk, rfl, h⟩
    rwa [hon] at this)
  have H := Lib.hid h
  have HOK := Lib.hid hok
  have HA := Lib.hid hA
  have HF := Lib.hid hfar
  have HL := Lib.hid hl
  have ha := h.apart
  simp only [List.nodup_cons, List.mem_cons, List.mem_append, not_or] at ha
  have HN : Hid (g ≠ gn ∧ g ≠ gs ∧ gn ≠ gs) := Lib.hid ⟨ha.1.1, ha.1.2.1, ha.2.1.1⟩
  have c2 := h.blk.cell 2
  simp at c2
  obtain ⟨n, hn⟩ : ∃ n, n = S.dirty.length := ⟨_, rfl⟩
  obtain ⟨ns, hns⟩ : ∃ ns, ns = S.safe.length := ⟨_, rfl⟩
  obtain ⟨nn, hnn⟩ : ∃ nn, nn = S.now.length := ⟨_, rfl⟩
  have HSN : Hid (nn = ns) := Lib.hid (by rw [hnn, hns, hok.len])
  have hgl := h.blk.lt
  rw [← hn] at c2 hcap H ⊢
  have HDN := Lib.hid hn
  have HNS := Lib.hid hns
  have HNN := Lib.hid hnn
  have hnI : (n : Int) ≤ 9223372036854775807 := by omega
  have hs0 := h.safe
  rw [← hns] at hs0
  have hn0 := h.now
  rw [← hnn] at hn0
  have HS0 := Lib.hid hs0
  have HN0 := Lib.hid hn0
  clear hs0 hn0 ha h hok hon hl hA hfar hn hns hnn hcap hcap2
  go_enter Tryz.func30, Tryz.ntmps30
  go_wp2_with (go_at_call 25; refine HON.out.mono ?_; rintro e w1 ⟨rfl, rfl⟩)
  go_loopw [5, 18] (fun v i wr => ∃ j : Nat, j ≤ n ∧ i = .int .i64 j ∧ v = .int .i64 (lostN l 0 (S.dirty.take j) : Int) ∧ Keep [gs] w wr ∧ wr.ownsRow 0 9 1 (.slice (some ⟨gs, 0, none⟩) ns cs) ns ((keptL l 0 (S.dirty.take j) S.safe).map Value.string)) (fun _ i _ => n - (intOf i).toNat)
  case atStart => exact ⟨0, Nat.zero_le _, rfl, rfl, Keep.refl _ _, by simpa [keptL] using HS0.out⟩
  case round =>
    obtain ⟨j, hj, rfl, rfl, hk, hrow⟩ := hrel
    have HK := Lib.hid hk
    have HR := Lib.hid hrow
    clear hk hrow
    have HK2 : Hid (Keep [gs, gn] w wr) := Lib.hid (HK.out.mono (by simp))
    have hgr : g < wr.heap.size := Nat.lt_of_lt_of_le hgl HK.out.size
    have HB : Hid (Blk wr g 75 #[.slice (some ⟨gn, 0, none⟩) nn cn, .slice (some ⟨gs, 0, none⟩) ns cs, .slice p n cap, .bool S.on, .int .i64 (S.writes : Int), .bool S.armed, .int .i64 (S.left : Int), vk]) :=
      Lib.hid ((HK.out.block g hgl (by simp; exact HN.out.2.1)).trans (by rw [HNN.out, HNS.out]; exact H.out.blk))
    by_cases hlt : j < n
    · have hjd : j < S.dirty.length := by rw [← HDN.out]; exact hlt
      obtain ⟨x, hx⟩ : ∃ x, x = S.dirty[j] := ⟨_, rfl⟩
      have hxj : S.dirty[j]? = some x := by rw [hx]; exact List.getElem?_eq_getElem hjd
      have hxf : x.1 < ns := by rw [HNS.out]; exact HOK.out.fits x (by rw [hx]; exact List.getElem_mem hjd)
      obtain ⟨gd, rfl, hgd, d0, d1⟩ := H.out.elem HK2.out hxj
      have HE := Lib.hid (kept_next (l := l) hxj hjd S.safe)
      have HLN := Lib.hid (lost_next (l := l) hxj hjd)
      have HLB := Lib.hid (lostN_le l 0 (S.dirty.take j))
      have HTK : Hid ((S.dirty.take j).length = j) := Lib.hid (by rw [List.length_take]; omega)
      obtain ⟨xa, xs⟩ := x
      obtain ⟨L, hL⟩ : ∃ L, L = lostN l 0 (S.dirty.take j) := ⟨_, rfl⟩
      have hLn : (L : Int) < 9223372036854775807 := by have := HLB.out; rw [HTK.out, ← hL] at this; omega
      rw [← hL] at HLN ⊢
      have hxaI : (xa : Int) < (ns : Int) := by simpa using hxf
      clear hL hx hxj
      simp only at d0 d1 hxf
      by_cases hm : j < m
      · have hml : j < l.length := by rw [HL.out]; exact hm
        obtain ⟨b, off, rfl, hbB, hcA⟩ := HA.out (by omega)
        obtain ⟨y, hy⟩ : ∃ y, y = l[j] := ⟨_, rfl⟩
        have hyj : l[j]? = some y := by rw [hy]; exact List.getElem?_eq_getElem hml
        have hyD : l.getD j 0 = y := by rw [List.getD_eq_getElem?_getD, hyj]; rfl
        have hbf := HF.out (by omega) _ rfl
        have a0 : wr.cell? ⟨b, off + j, none⟩ = some (.int .i64 y) := (World.cell?_of_block (a := ⟨b, off + j, none⟩) (HK.out.block b hbB (fun hm => hbf (by simp at hm; simp [hm])))).trans (hcA j y hyj)
        have hbr : b < wr.heap.size := Nat.lt_of_lt_of_le hbB HK.out.size
        rw [hyD] at HE HLN
        clear hy hyj hyD hcA hbf
        by_cases hodd : oddI y = true
        · obtain ⟨t, ht⟩ : ∃ t, y.tmod 2 = t := ⟨_, rfl⟩
          have ht0 : (t != 0) = true := bne_iff_ne.2 (by rw [← ht]; exact odd_tmod hodd)
          rw [hodd] at HE HLN
          clear hodd
          go_upto_region 7 with fail
          obtain ⟨W, hW⟩ : ∃ W, W = wr.alloc (.cells #[.int .i64 (xa : Int), .string xs] 90) := ⟨_, rfl⟩
          have kW : Keep [] wr W := by rw [hW]; exact (Keep.refl _ _).alloc _
          have bW : Blk W wr.heap.size 90 #[.int .i64 (xa : Int), .string xs] := by rw [hW]; exact Blk.new wr _ _
          have a1 : W.cell? ⟨b, off + j, none⟩ = some (.int .i64 y) := (World.cell?_of_block (a := ⟨b, off + j, none⟩) (kW.block b hbr (by simp))).trans a0
          have e0 := bW.cell 0
          have e1 := bW.cell 1
          have g1 := (show Blk W g 75 _ from (kW.block g hgr (by simp)).trans HB.out).cell 1
          have q0 := row_cell (row_keep HR.out kW (by simp)) (i := xa) (u := .string ((keptL l 0 (S.dirty.take j) S.safe).getD xa .empty)) (by
            rw [List.getElem?_map, List.getD_eq_getElem?_getD, List.getElem?_eq_getElem (by rw [keptL_length, ← HNS.out]; exact hxf)]; rfl)
          have q1 := row_frozen (row_keep HR.out kW (by simp)) xa
          simp at e0 e1 g1
          obtain ⟨X, hX⟩ : ∃ X, X = (keptL l 0 (S.dirty.take j) S.safe).getD xa .empty := ⟨_, rfl⟩
          rw [← hX] at q0
          have HKW := Lib.hid kW
          have HWW := Lib.hid hW
          rw [← hW]
          clear hW kW bW a0 d0 d1 hX
          go_upto_region 8 with fail
          have f1 := q1
          clear ht ht0 a1 q1
          go_still_tail 9, (by kernel_rfl)
          change wpList _ _ _ _ _ W.drew
          go_wp2_with fail
          go_roundw
          case rel =>
            refine ⟨j + 1, by omega, by go_num, by rw [HLN.out]; simp, ?_, ?_⟩
            · exact ((HK.out.trans HKW.out (by simp)).drew).put (.inl (by simp)) _ _
            · rw [HE.out, if_pos rfl, List.map_set]
              exact row_kept (row_put (row_keep HR.out HKW.out (by simp)) (i := xa) (.string xs)) (fun _ _ => rfl)
          case measure => simp [intOf]; omega
        · have ho : oddI y = false := by simpa using hodd
          have ht := even_tmod ho
          rw [ho] at HE HLN
          clear hodd ho
          go_wp2_with fail
          go_roundw
          case rel => exact ⟨j + 1, by omega, by go_num, by rw [HLN.out]; simp, HK.out.alloc _, by rw [HE.out]; simpa using row_keep HR.out (Keep.alloc (Keep.refl [] wr) _) (by simp)⟩
          case measure => simp [intOf]; omega
      · have hD : oddI (l.getD j 0) = false := by
          rw [List.getD_eq_getElem?_getD, List.getElem?_eq_none (by rw [HL.out]; omega)]
          rfl
        rw [hD] at HE HLN
        clear hD
        go_wp2_with fail
        go_roundw
        case rel => exact ⟨j + 1, by omega, by go_num, by rw [HLN.out]; simp, HK.out.alloc _, by rw [HE.out]; simpa using row_keep HR.out (Keep.alloc (Keep.refl [] wr) _) (by simp)⟩
        case measure => simp [intOf]; omega
    · obtain rfl : j = n := by omega
      have hTn : S.dirty.take j = S.dirty := List.take_of_length_le (by rw [← HDN.out]; exact Nat.le_refl _)
      rw [hTn] at HR ⊢
      clear hTn hlt hj
      obtain ⟨K, hK⟩ : ∃ K, K = keptL l 0 S.dirty S.safe := ⟨_, rfl⟩
      rw [← hK] at HR
      have HKL : Hid (K.length = ns) := Lib.hid (by rw [hK, keptL_length, HNS.out])
      have HKE := Lib.hid hK
      obtain ⟨L, hL⟩ : ∃ L, L = lostN l 0 S.dirty := ⟨_, rfl⟩
      rw [← hL]
      have HLL := Lib.hid hL
      clear hK hL
      have c2' := HB.out.cell 2
      simp at c2'
      go_wp2_with fail
      go_loopw [52] (fun i w2 => ∃ k : Nat, k ≤ j ∧ i = .int .i64 k ∧ Keep [gs, gn] w w2 ∧ w2.ownsRow 0 9 1 (.slice (some ⟨gs, 0, none⟩) ns cs) ns (K.map Value.string) ∧ w2.ownsRow 0 9 1 (.slice (some ⟨gn, 0, none⟩) nn cn) nn ((backL K (S.dirty.take k) S.now).map Value.string)) (fun i _ => j - (intOf i).toNat)
      case atStart => exact ⟨0, Nat.zero_le _, rfl, HK2.out, HR.out, by simpa [backL] using row_keep HN0.out HK.out (by intro k e; cases e; simpa using HN.out.2.2)⟩
      case round =>
        obtain ⟨k, hk, rfl, hkk, hrs, hrn⟩ := hrel
        clear HB c2'
        have HK3 := Lib.hid hkk
        have HRS := Lib.hid hrs
        have HRN := Lib.hid hrn
        clear hkk hrs hrn
        have hgr2 : g < wr.heap.size := Nat.lt_of_lt_of_le hgl HK3.out.size
        have HB3 : Hid (Blk wr g 75 #[.slice (some ⟨gn, 0, none⟩) nn cn, .slice (some ⟨gs, 0, none⟩) ns cs, .slice p j cap, .bool S.on, .int .i64 (S.writes : Int), .bool S.armed, .int .i64 (S.left : Int), vk]) :=
          Lib.hid ((HK3.out.block g hgl (by simp; exact ⟨HN.out.2.1, HN.out.1⟩)).trans (by rw [HNN.out, HNS.out]; exact H.out.blk))
        by_cases hlt : k < j
        · have hjd : k < S.dirty.length := by rw [← HDN.out]; exact hlt
          obtain ⟨x, hx⟩ : ∃ x, x = S.dirty[k] := ⟨_, rfl⟩
          have hxj : S.dirty[k]? = some x := by rw [hx]; exact List.getElem?_eq_getElem hjd
          have hxf : x.1 < ns := by rw [HNS.out]; exact HOK.out.fits x (by rw [hx]; exact List.getElem_mem hjd)
          obtain ⟨gd, rfl, hgd, d0, d1⟩ := H.out.elem HK3.out hxj
          have HE : Hid (backL K (S.dirty.take (k + 1)) S.now = (backL K (S.dirty.take k) S.now).set x.1 (K.getD x.1 .empty)) := Lib.hid (by rw [take_snoc hxj, backL_snoc])
          obtain ⟨xa, xs⟩ := x
          have hxaI : (xa : Int) < (ns : Int) := by simpa using hxf
          have hxaN : (xa : Int) < (nn : Int) := by rw [HSN.out]; exact hxaI
          clear hx hxj
          simp only at d0 d1 hxf HE
          go_upto_region 14 with fail
          obtain ⟨W, hW⟩ : ∃ W, W = wr.alloc (.cells #[.int .i64 (xa : Int), .string xs] 90) := ⟨_, rfl⟩
          have kW : Keep [] wr W := by rw [hW]; exact (Keep.refl _ _).alloc _
          have bW : Blk W wr.heap.size 90 #[.int .i64 (xa : Int), .string xs] := by rw [hW]; exact Blk.new wr _ _
          have e0 := bW.cell 0
          have bg := (show Blk W g 75 _ from (kW.block g hgr2 (by simp)).trans HB3.out)
          have g0 := bg.cell 0
          have g1 := bg.cell 1
          have q0 := row_cell (row_keep HRS.out kW (by simp)) (i := xa) (u := .string (K.getD xa .empty)) (by
            rw [List.getElem?_map, List.getD_eq_getElem?_getD, List.getElem?_eq_getElem (by rw [HKL.out]; exact hxf)]; rfl)
          have q1 := row_cell (row_keep HRN.out kW (by simp)) (i := xa) (u := .string ((backL K (S.dirty.take k) S.now).getD xa .empty)) (by
            rw [List.getElem?_map, List.getD_eq_getElem?_getD, List.getElem?_eq_getElem (by rw [backL_length, ← HNN.out, HSN.out]; exact hxf)]; rfl)
          have q2 := row_frozen (row_keep HRN.out kW (by simp)) xa
          simp at e0 g0 g1
          obtain ⟨X, hX⟩ : ∃ X, X = (backL K (S.dirty.take k) S.now).getD xa .empty := ⟨_, rfl⟩
          rw [← hX] at q1
          obtain ⟨Y, hY⟩ : ∃ Y, Y = K.getD xa .empty := ⟨_, rfl⟩
          rw [← hY] at q0 HE
          have HKW := Lib.hid kW
          rw [← hW]
          clear hW kW bW d0 d1 hX hY bg
          go_still_tail 15, (by kernel_rfl)
          change wpList _ _ _ _ _ W.drew
          go_wp2_with fail
          go_roundw
          case rel =>
            refine ⟨k + 1, by omega, by go_num, ?_, ?_, ?_⟩
            · exact ((HK3.out.trans HKW.out (by simp)).drew).put (.inl (by simp)) _ _
            · exact row_far (row_kept (row_keep HRS.out HKW.out (by simp)) (fun _ _ => rfl)) (by intro e; cases e; exact HN.out.2.2 rfl) _
            · rw [HE.out, List.map_set]
              exact row_kept (row_put (row_keep HRN.out HKW.out (by simp)) (i := xa) (.string Y)) (fun _ _ => rfl)
          case measure => simp [intOf]; omega
        · obtain rfl : k = j := by omega
          have hTn : S.dirty.take k = S.dirty := List.take_of_length_le (by rw [← HDN.out]; exact Nat.le_refl _)
          rw [hTn, HKE.out, back_all HOK.out l] at HRN
          rw [HKE.out] at HRS
          rw [HNS.out] at HRS
          rw [HNN.out] at HRN
          have HD := Lib.hid (crash_is H.out HOK.out l HK3.out HRS.out HRN.out)
          have c2' := HB3.out.cell 2
          have c3' := HB3.out.cell 3
          have f2' := HB3.out.frozen 2
          have f3' := HB3.out.frozen 3
          simp at c2' c3'
          clear hTn hlt hk HB3
          go_wp2_with (go_at_call 62; refine (ddisarm_any (w := (wr.setCell ⟨g, 3, none⟩ (.bool false)).setCell ⟨g, 2, none⟩ (.slice none 0 0)) ⟨gn, gs, cn, cs, _, vk, rfl, HD.out⟩).mono ?_; rintro e w3 ⟨rfl, hT⟩)
          go_ret
          refine ⟨by rw [← HLL.out]; rfl, ?_⟩
          obtain ⟨O3, h1, h2, h3⟩ := hT
          have hKK : Keep (g :: gn :: gs :: ((Value.slice p k cap).ownBlock.toList ++ vk.ownBlock.toList)) w ((wr.setCell ⟨g, 3, none⟩ (.bool false)).setCell ⟨g, 2, none⟩ (.slice none 0 0)) :=
            ((HK3.out.mono (by simp)).put (.inl (by simp)) _ _).put (.inl (by simp)) _ _
          have hsz : w.heap.size ≤ ((wr.setCell ⟨g, 3, none⟩ (.bool false)).setCell ⟨g, 2, none⟩ (.slice none 0 0)).heap.size := hKK.size
          have hsub : ∀ b ∈ g :: gn :: gs :: ((Value.slice none 0 0).ownBlock.toList ++ vk.ownBlock.toList), b ∈ g :: gn :: gs :: ((Value.slice p k cap).ownBlock.toList ++ vk.ownBlock.toList) := by
            intro b hb
            simp only [List.mem_cons, List.mem_append] at hb ⊢
            rcases hb with hb | hb | hb | hb | hb
            · exact .inl hb
            · exact .inr (.inl hb)
            · exact .inr (.inr (.inl hb))
            · simp [Value.ownBlock] at hb
            · exact .inr (.inr (.inr (.inr hb)))
          refine ⟨O3, h1, fun b hb => ?_, hKK.trans h3 (fun b hb => .inl (hsub b hb))⟩
          rcases h2 b hb with h2 | h2
          · exact .inl (hsub b h2)
          · exact .inr (by omega)
set_option maxHeartbeats 400000 in
theorem dcrash_off {w : World} {O : List Nat} {g : Nat} {S : DS} (A : Option Addr) (m c : Nat) (l : List Int) (h : DiskAt w O g S) (hon : S.on = false) :
    Calls Tryz.prog 30 #[.pointer (some ⟨g, 0, none⟩), .slice A m c] w fun e w' => e = .returned (.int .i64 (S.lost l : Int)) ∧ Turns O g (S.crash l) w w' := by
  have R1 : S.lost l = 0 := by unfold DS.lost; rw [hon]; rfl
  have R2 : S.crash l = S := by unfold DS.crash; rw [hon]; rfl
  rw [R1, R2]
  have HO := Lib.hid (don_any h)
  rw [hon] at HO
  have H := Lib.hid h
  clear R1 R2 h hon
  go_enter Tryz.func30, Tryz.ntmps30
  go_wp2_with (go_at_call 25; refine HO.out.mono ?_; rintro e w1 ⟨rfl, rfl⟩)
  go_ret
  exact ⟨rfl, Turns.refl H.out⟩
theorem dcrash_any {w : World} {O : List Nat} {g : Nat} {S : DS} (A : Option Addr) (m c : Nat) (l : List Int) (h : DiskAt w O g S) (hok : S.Ok) (hl : l.length = m) (hA : IntsD w A l) (hfar : FarInts A l O) :
    Calls Tryz.prog 30 #[.pointer (some ⟨g, 0, none⟩), .slice A m c] w fun e w' => e = .returned (.int .i64 (S.lost l : Int)) ∧ Turns O g (S.crash l) w w' := by
  by_cases hon : S.on = true
  · obtain ⟨gn, gs, cn, cs, vd, vk, rfl, h⟩ := h
    refine dcrash_on A m c l h hok hon hl hA (fun hp a e hm => hfar hp a e ?_)
    simp only [List.mem_cons, List.not_mem_nil, or_false] at hm
    simp only [List.mem_cons]
    rcases hm with hm | hm | hm
    · exact .inl hm
    · exact .inr (.inl hm)
    · exact .inr (.inr (.inl hm))
  · exact dcrash_off A m c l h (by simpa using hon)
theorem cltexts_info : (Tryz.prog.info? 9).map (fun i => (i.zero, i.size, i.bytes)) = some (some (.string .empty), 1, 16) := by kernel_rfl
set_option maxRecDepth 100000 in
set_option maxHeartbeats 1000000 in
theorem cltexts_any (A : Option Addr) (m c : Nat) (l : List ByteArray) (w : World) (hl : l.length = m) (hA : ∀ ad, A = some ad → ∀ (j : Nat) (u : Value), (l.map Value.string)[j]? = some u → w.cell? (ad.add j) = some u) (h0 : A = none → m = 0 ∧ c = 0) (hm : m ≤ 1000000000000) :
    Calls Tryz.prog 38 #[.slice A m c] w fun e w' => ∃ v, e = .returned v ∧ w'.ownsRow w.heap.size 9 1 v m (l.map Value.string) ∧ Below w.heap.size w w' := by
  obtain ⟨i0, hi, hz0, hz1, hz2⟩ := info_parts cltexts_info
  have HM := Lib.hid hl
  have H0 := Lib.hid h0
  rcases A with _ | ad
  · obtain ⟨rfl, rfl⟩ := h0 rfl
    have hxs : l = [] := List.eq_nil_of_length_eq_zero hl
    subst hxs
    have q : ∀ w, (binOp .eql 38 (.slice none 0 0) (.slice none 0 0)).run Tryz.prog w = .ok (.bool true) w := fun w => Lib.run_eql_slice_nil w 38 _ none 0 0 0 0 Tryz.underlying38
    clear hA h0 hl
    go_enter Tryz.func38, Tryz.ntmps38
    go_wp2_with fail
    go_ret
    exact ⟨_, rfl, World.ownsRow_nil _ _ _ _, Below.refl _ _⟩
  · have hone : ∀ u ∈ (l.map Value.string), u.oneCell' = true := by
      intro u hu
      obtain ⟨x, _, rfl⟩ := List.mem_map.1 hu
      rfl
    have HN := Lib.hid (hA ad rfl)
    have HO := Lib.hid hone
    have HE : Hid ((w.alloc (.cells #[] 9)).ownsRow w.heap.size 9 1 (.slice (some ⟨w.heap.size, 0, none⟩) 0 0) 0 []) := Lib.hid (World.ownsRow_made w #[] 0 (Nat.le_refl _) (by decide) rfl)
    have HC : Hid ((l.map Value.string).length = m * 1) := Lib.hid (by rw [List.length_map, hl]; omega)
    have HB : Hid (Below w.heap.size w (w.alloc (.cells #[] 9))) := Lib.hid ((Below.refl _ _).alloc (Nat.le_refl _) _)
    have HNN : Hid (∀ (j : Nat) (u : Value), (l.map Value.string)[j]? = some u → (w.alloc (.cells #[] 9)).cell? (ad.add j) = some u) := Lib.hid (fun j u hu => by
      have h1 := HN.out j u hu
      have hlt := World.block_lt_of_cell? w _ h1
      rw [World.cell?_of_block (Below.heap_alloc w _ _ hlt)]
      exact h1)
    have q : ∀ w, (binOp .eql 38 (.slice (some ad) m c) (.slice none 0 0)).run Tryz.prog w = .ok (.bool false) w := fun w => Lib.run_eql_slice_nil w 38 _ (some ad) m c 0 0 Tryz.underlying38
    clear hA h0 hone hl
    go_enter Tryz.func38, Tryz.ntmps38
    go_wp2_with (at_builtin; refine wpList_append_own _ rfl _ _ 38 rfl w.heap.size 9 i0 (.string .empty) 1 16 Tryz.underlying38 hi hz0 hz1 hz2 rfl (by omega) (.slice (some ⟨w.heap.size, 0, none⟩) 0 0) 0 [] rfl HE.out ad m c (l.map Value.string) rfl HC.out HNN.out HO.out (by unfold maxLen; omega) (by omega) (by simp) ?_; intro v1 w1 hown1 hg1 _)
    have hb1 : Below w.heap.size w w1 := HB.out.grown hg1 (by simp) (by simp [Value.ownBlock])
    have HOW := Lib.hid hown1
    clear hown1 hg1
    go_ret
    exact ⟨v1, rfl, by simpa using HOW.out, hb1⟩
theorem clints_info : (Tryz.prog.info? 3).map (fun i => (i.zero, i.size, i.bytes)) = some (some (.int .i64 0), 1, 8) := by kernel_rfl
set_option maxRecDepth 100000 in
set_option maxHeartbeats 1000000 in
theorem clints_any (A : Option Addr) (m c : Nat) (l : List Int) (w : World) (hl : l.length = m) (hA : ∀ ad, A = some ad → ∀ (j : Nat) (u : Value), (l.map (Value.int .i64))[j]? = some u → w.cell? (ad.add j) = some u) (h0 : A = none → m = 0 ∧ c = 0) (hm : m ≤ 1000000000000) :
    Calls Tryz.prog 63 #[.slice A m c] w fun e w' => ∃ v, e = .returned v ∧ w'.ownsRow w.heap.size 3 1 v m (l.map (Value.int .i64)) ∧ Below w.heap.size w w' := by
  obtain ⟨i0, hi, hz0, hz1, hz2⟩ := info_parts clints_info
  have HM := Lib.hid hl
  have H0 := Lib.hid h0
  rcases A with _ | ad
  · obtain ⟨rfl, rfl⟩ := h0 rfl
    have hxs : l = [] := List.eq_nil_of_length_eq_zero hl
    subst hxs
    have q : ∀ w, (binOp .eql 39 (.slice none 0 0) (.slice none 0 0)).run Tryz.prog w = .ok (.bool true) w := fun w => Lib.run_eql_slice_nil w 39 _ none 0 0 0 0 Tryz.underlying39
    clear hA h0 hl
    go_enter Tryz.func63, Tryz.ntmps63
    go_wp2_with fail
    go_ret
    exact ⟨_, rfl, World.ownsRow_nil _ _ _ _, Below.refl _ _⟩
  · have hone : ∀ u ∈ (l.map (Value.int .i64)), u.oneCell' = true := by
      intro u hu
      obtain ⟨x, _, rfl⟩ := List.mem_map.1 hu
      rfl
    have HN := Lib.hid (hA ad rfl)
    have HO := Lib.hid hone
    have HE : Hid ((w.alloc (.cells #[] 3)).ownsRow w.heap.size 3 1 (.slice (some ⟨w.heap.size, 0, none⟩) 0 0) 0 []) := Lib.hid (World.ownsRow_made w #[] 0 (Nat.le_refl _) (by decide) rfl)
    have HC : Hid ((l.map (Value.int .i64)).length = m * 1) := Lib.hid (by rw [List.length_map, hl]; omega)
    have HB : Hid (Below w.heap.size w (w.alloc (.cells #[] 3))) := Lib.hid ((Below.refl _ _).alloc (Nat.le_refl _) _)
    have HNN : Hid (∀ (j : Nat) (u : Value), (l.map (Value.int .i64))[j]? = some u → (w.alloc (.cells #[] 3)).cell? (ad.add j) = some u) := Lib.hid (fun j u hu => by
      have h1 := HN.out j u hu
      have hlt := World.block_lt_of_cell? w _ h1
      rw [World.cell?_of_block (Below.heap_alloc w _ _ hlt)]
      exact h1)
    have q : ∀ w, (binOp .eql 39 (.slice (some ad) m c) (.slice none 0 0)).run Tryz.prog w = .ok (.bool false) w := fun w => Lib.run_eql_slice_nil w 39 _ (some ad) m c 0 0 Tryz.underlying39
    clear hA h0 hone hl
    go_enter Tryz.func63, Tryz.ntmps63
    go_wp2_with (at_builtin; refine wpList_append_own _ rfl _ _ 39 rfl w.heap.size 3 i0 (.int .i64 0) 1 8 Tryz.underlying39 hi hz0 hz1 hz2 rfl (by omega) (.slice (some ⟨w.heap.size, 0, none⟩) 0 0) 0 [] rfl HE.out ad m c (l.map (Value.int .i64)) rfl HC.out HNN.out HO.out (by unfold maxLen; omega) (by omega) (by simp) ?_; intro v1 w1 hown1 hg1 _)
    have hb1 : Below w.heap.size w w1 := HB.out.grown hg1 (by simp) (by simp [Value.ownBlock])
    have HOW := Lib.hid hown1
    clear hown1 hg1
    go_ret
    exact ⟨v1, rfl, by simpa using HOW.out, hb1⟩
theorem clwrites_info : (Tryz.prog.info? 90).map (fun i => (i.zero, i.size, i.bytes)) = some (some (.agg #[.int .i64 0, .string .empty]), 2, 24) := by kernel_rfl
end Go.Proofs.YtiagofgcinlnhaaGreatDoor
