/-
  The check sum's own calls: one byte's bits, all texts, whether texts have room.
-/
import Derived.Test.YtiagofgcinlnhaaGreatDoorTexts
import Derived.Laws.CopyOwn
import Derived.Lib.BufferWrite
import Derived.BigRegion
import Derived.Test.YtiagofgcinlnhaaGreatDoorNums
import Derived.Test.YtiagofgcinlnhaaGreatDoorDiskPure
import Derived.Test.YtiagofgcinlnhaaGreatDoorDiskClone
namespace Go.Proofs.YtiagofgcinlnhaaGreatDoor
open Go.RowKit
theorem repeat_zero (c : Nat) : Lib.repeatL [0] c = List.replicate c (0 : UInt8) := by
  induction c with
  | zero => rfl
  | succ c ih => rw [Lib.repeatL, ih, List.replicate_succ]; rfl
set_option maxHeartbeats 800000 in
theorem pad_any (o : Nat) (s : Wr) (n : Int) (w : World) (h : OutAt w o s) (hs : s.l.length ≤ 140737488351232) :
    Calls Tryz.prog 125 #[.pointer (some ⟨o, 0, none⟩), .int .i64 n] w fun e w' => e = .returned (.pointer (some ⟨o, 0, none⟩)) ∧ OutAt w' o (s.pad n) ∧ w.grownBy w' (some o) := by
  have H := Lib.hid h
  obtain ⟨p, r, h1, h2, h3⟩ := h
  have c1 := h1.cell 1
  simp at c1
  clear h1 h2 h3
  by_cases h0 : n < 0
  · have R : s.pad n = s.fail 1 := by unfold Wr.pad; rw [if_pos (.inl h0)]
    rw [R]
    clear R
    go_enter Tryz.func125, Tryz.ntmps125
    go_wp2_with (go_at_call 151; refine (fail_any o s 1 _ H.out).mono ?_; rintro e w1 ⟨rfl, h1, hg1⟩)
    go_ret
    exact ⟨rfl, h1, hg1⟩
  · obtain ⟨m, rfl⟩ := Int.eq_ofNat_of_zero_le (show 0 ≤ n by omega)
    clear h0
    by_cases hb : 65536 < m
    · have R : s.pad m = s.fail 1 := by unfold Wr.pad; rw [if_pos (.inr (by omega))]
      rw [R]
      clear R
      go_enter Tryz.func125, Tryz.ntmps125
      go_wp2_with (go_at_call 151; refine (fail_any o s 1 _ H.out).mono ?_; rintro e w1 ⟨rfl, h1, hg1⟩)
      go_ret
      exact ⟨rfl, h1, hg1⟩
    · have hb' : m ≤ 65536 := by omega
      clear hb
      by_cases hl : m < s.l.length
      · have R : s.pad m = s.fail 2 := by unfold Wr.pad; rw [if_neg (by omega), if_pos (by omega)]
        rw [R]
        clear R
        go_enter Tryz.func125, Tryz.ntmps125
        go_wp2_with (go_at_call 151; refine (fail_any o s 2 _ H.out).mono ?_; rintro e w1 ⟨rfl, h1, hg1⟩)
        go_ret
        exact ⟨rfl, h1, hg1⟩
      · have hl' : s.l.length ≤ m := by omega
        have R : s.pad m = s.lay (List.replicate (m - s.l.length) 0) := by unfold Wr.pad; rw [if_neg (by omega), if_neg (by omega)]; rfl
        rw [R]
        clear R hl
        have e1 : (⟨(Lib.repeatL (ByteArray.mk #[0]).data.toList (m - s.l.length)).toArray⟩ : ByteArray).data.toList = List.replicate (m - s.l.length) 0 := by
          show Lib.repeatL [0] _ = _
          exact repeat_zero _
        have E1 := Lib.hid e1
        clear e1
        go_enter Tryz.func125, Tryz.ntmps125
        go_wp2_with fail
        rw [show ((m : Int) - (s.l.length : Int)) = ((m - s.l.length : Nat) : Int) from by omega]
        refine (repeat_any ⟨#[0]⟩ (m - s.l.length) _ (by omega) (by show 1 * _ ≤ _; omega)).mono ?_
        rintro e w1 ⟨rfl, hb1⟩
        go_wp2_with (go_at_call 123; refine (lay_any o s _ w1 (H.out.below hb1) (by rw [Lib.size_eq, E1.out]; simp; omega)).mono ?_; rintro e w2 ⟨rfl, h2, hg2⟩)
        go_ret
        exact ⟨rfl, by rw [E1.out] at h2; exact h2, by_trans (by_below hb1 (Nat.le_refl _)) hg2⟩
set_option maxRecDepth 100000 in
set_option maxHeartbeats 2000000 in
theorem fin_any (o : Nat) (s : Wr) (w : World) (h : OutAt w o s) (hok : s.ok) (hs : s.l.length ≤ 140737488351232) :
    Calls Tryz.prog 98 #[.pointer (some ⟨o, 0, none⟩)] w fun e w' => e = .returned (.tuple #[.string ⟨s.l.toArray⟩, .int .i64 s.e]) ∧ OutAt w' o s ∧ Below w.heap.size w w' := by
  have H := Lib.hid h
  obtain ⟨p, r, h1, h2, h3⟩ := h
  have c0 := h1.cell 0
  have c1 := h1.cell 1
  have c2 := h1.cell 2
  simp at c0 c1 c2
  have hl := h1.lt
  have H2 := Lib.hid h2
  have H3 := Lib.hid h3
  clear h1 h2 h3
  by_cases he : s.e = 0
  · have HE := Lib.hid he
    rw [he] at c2
    clear he hok
    obtain ⟨i0, hi, hz0, hz1, hz2⟩ := info_parts (show (Tryz.prog.info? 5).map (fun i => (i.zero, i.size, i.bytes)) = some (some (.int .u8 0), 1, 1) by kernel_rfl)
    obtain ⟨n, hn⟩ : ∃ n, n = s.l.length := ⟨_, rfl⟩
    rw [← hn] at hs c1
    have HN := Lib.hid hn
    clear hn
    obtain ⟨M, hM⟩ : ∃ M, M = madeCells (Value.int .u8 0).cells (((n : Nat) : Int).toNat * i0.size) := ⟨_, rfl⟩
    have hMs : M.size = n := by rw [hM, size_madeCells, hz1]; simp
    have hmk : ∀ W : World, (Instr.makeSlice 81 (.int .i64 (n : Int)) (.int .i64 (n : Int))).run Tryz.prog W = .ok (.slice (some ⟨W.heap.size, 0, none⟩) n n) (W.alloc (.cells M 5)) := fun W => by
      have h := run_make (P := Tryz.prog) W 81 5 i0 (.int .u8 0) Tryz.underlying81 hi hz0 .i64 .i64 (n : Int) (n : Int) (by omega) (by omega) (by rw [hz2]; omega) (by omega)
      rw [← hM] at h
      simpa using h
    have HMS := Lib.hid hMs
    clear hM hMs
    go_enter Tryz.func98, Tryz.ntmps98
    go_wp2_with fail
    go_loopw [5, 6] (fun a v wr => ∃ (rem : List (Nat × ByteArray)) (pc : Option Addr) (tail : List UInt8) (cur : Array Value), Chain w o pc rem ∧ cat rem ++ tail = s.l ∧ a = .int .i64 (cat rem).length ∧ v = .pointer pc ∧
        wr.heap[w.heap.size]? = some (.cells cur 5 (0, 0)) ∧ cur.size = n ∧ cur.toList.drop (cat rem).length = Lib.byteCells tail ∧ Below w.heap.size w wr)
      (fun a _ _ => (intOf a).toNat)
    case atStart =>
      refine ⟨r, p, [], M, H2.out, by rw [H3.out]; simp, by rw [H3.out, HN.out], rfl, heap_alloc_new w _, HMS.out, ?_, (Below.refl _ _).alloc (Nat.le_refl _) _⟩
      rw [List.drop_of_length_le (by rw [H3.out, Array.length_toList, HMS.out, HN.out]; exact Nat.le_refl _)]
      rfl
    case round =>
      obtain ⟨rem, pc, tail, cur, hch, hcat, rfl, rfl, hcur, hcsz, hdrop, hbr⟩ := hrel
      have HCAT := Lib.hid hcat
      have HDROP := Lib.hid hdrop
      clear hcat hdrop
      match rem, hch with
      | [], hch =>
        obtain rfl : pc = none := hch
        have htl : tail = s.l := HCAT.out
        have hcl : cur.toList = Lib.byteCells s.l := by rw [← htl]; exact HDROP.out
        have hcv := run_convert_bytes_back (P := Tryz.prog) wr 81 9 5 ⟨w.heap.size, 0, none⟩ n s.l Tryz.underlying81 Tryz.underlying5 Tryz.underlying9
          (fun i hi => Lib.cells_of_row hcur s.l.length i _ (by rw [List.take_of_length_le (by rw [hcl, Lib.byteCells_length]; exact Nat.le_refl _), hcl]; simp [Lib.byteCells, List.getElem?_eq_getElem hi]))
        rw [← HN.out] at hcv
        clear htl hcl hcur hcsz
        go_wp2_with fail
        go_ret2
        exact ⟨by rw [HE.out]; rfl, H.out.below hbr, hbr⟩
      | (qb, sb) :: rem', hch =>
        obtain ⟨rfl, hqo, hsz, p', hq, hch'⟩ := hch
        have hq' := hq.below hbr hq.lt
        have d0 := hq'.cell 0
        have d1 := hq'.cell 1
        simp at d0 d1
        have hlen : (cat ((qb, sb) :: rem')).length = (cat rem').length + sb.size := by rw [cat, List.length_append, Lib.size_eq]
        have hle : (cat ((qb, sb) :: rem')).length ≤ n := by
          have := congrArg List.length HCAT.out
          rw [List.length_append] at this
          rw [HN.out]
          omega
        obtain ⟨a', ha'⟩ : ∃ a', a' = (cat rem').length := ⟨_, rfl⟩
        rw [hlen, ← ha'] at hle ⊢
        have HA := Lib.hid ha'
        have HLEN := Lib.hid hlen
        have hcp := Lib.run_copy_row_string (P := Tryz.prog) wr.drew 81 9 3 5 w.heap.size a' (n - a') (n - a') sb cur 5 Tryz.underlying81 (by rw [hi]; simp [hz1]) hcur (by omega) (by rw [hcsz]; omega)
        obtain ⟨Y, hY⟩ : ∃ Y, Y = (cur.toList.take a' ++ Lib.byteCells sb.data.toList ++ cur.toList.drop (a' + sb.size)).toArray := ⟨_, rfl⟩
        rw [← hY] at hcp
        have HY := Lib.hid hY
        have HCH := Lib.hid hch'
        have HCS := Lib.hid hcsz
        have hqne : qb ≠ w.heap.size := by have := hq.lt; omega
        have hd0 : (wr.drew.setRow w.heap.size Y).cell? ⟨qb, 0, none⟩ = some (.pointer p') :=
          (World.cell?_of_block (w := wr.drew) (setRow_other wr.drew w.heap.size qb Y hqne)).trans d0
        have hb' : Below w.heap.size w (wr.drew.setRow w.heap.size Y) := below_setRow hbr.drew (Nat.le_refl _) Y
        have hcur' : (wr.drew.setRow w.heap.size Y).heap[w.heap.size]? = some (.cells Y 5 (0, 0)) := setRow_heap wr.drew w.heap.size cur Y 5 (0, 0) hcur
        have HCUR := Lib.hid hcur'
        clear ha' hlen hY hq hq' hch' hcsz hcur'
        go_wp2_with fail
        go_region
        go_wp2_with fail
        go_roundw
        case rel =>
          refine ⟨rem', p', sb.data.toList ++ tail, Y, HCH.out, ?_, by rw [HA.out], rfl, HCUR.out, ?_, ?_, hb'⟩
          · rw [← HCAT.out, cat, List.append_assoc]
          · rw [HY.out, ← Array.length_toList, List.toList_toArray, List.length_append, List.length_append, List.length_take, List.length_drop, Array.length_toList, HCS.out, Lib.byteCells_length, ← Lib.size_eq]
            omega
          · have hd := HDROP.out
            rw [HLEN.out] at hd
            rw [← HA.out] at hd ⊢
            rw [HY.out, List.toList_toArray, List.append_assoc, List.drop_append_of_le_length (by rw [List.length_take, Array.length_toList, HCS.out]; omega),
              List.drop_of_length_le (by rw [List.length_take]; omega), List.nil_append, hd, Lib.byteCells_append]
        case measure => simp [intOf]; omega
  · have hl0 : s.l = [] := hok he
    have hc : (s.e != 0) = true := by rw [bne_iff_ne]; exact he
    rw [hl0]
    go_enter Tryz.func98, Tryz.ntmps98
    go_wp2_with fail
    go_quiet (fail)
    go_wp2_with fail
    go_ret2
    have hb : Below w.heap.size w (w.drewN nq) := ⟨rfl, rfl, rfl, Nat.le_refl _, fun _ _ => rfl⟩
    exact ⟨rfl, H.out.below hb, hb⟩
def InRange (xs : List Int) : Prop := ∀ x ∈ xs, -9223372036854775808 ≤ x ∧ x ≤ 9223372036854775807
set_option maxHeartbeats 400000 in
theorem numbers_any (k : Nat) (hk : k ≤ 8) (o : Nat) (s : Wr) (A : Option Addr) (n c : Nat) (xs : List Int) (w : World) (hn : xs.length = n) (hx : Ints w w.heap.size A xs) (hlen : xs.length * 8 ≤ 140737488351232) (hr : InRange xs) (h : OutAt w o s) (hs : s.l.length ≤ 140737488351232) :
    Calls Tryz.prog 122 #[.pointer (some ⟨o, 0, none⟩), .int .i64 k, .slice A n c] w fun e w' => e = .returned (.pointer (some ⟨o, 0, none⟩)) ∧ OutAt w' o (s.nums k xs) ∧ w.grownBy w' (some o) := by
  subst hn
  have hm : xs.length * k ≤ xs.length * 8 := Nat.mul_le_mul_left _ hk
  have key := numbers_core (some ⟨o, 0, none⟩) k hk A c xs w hx hlen hr (fun ok w' => OutAt w' o (if ok = true then s.lay (allBytes k xs) else s.fail 1) ∧ w.grownBy w' (some o))
    (fun w1 hb => (fail_any o s 1 w1 (h.below hb)).mono fun e w' ⟨he, h1, h2⟩ => ⟨he, by simpa using h1, by_trans (by_below hb (Nat.le_refl _)) h2⟩)
    (fun w1 hb => (lay_any o s _ w1 (h.below hb) (by rw [Lib.size_eq]; show _ + (allBytes k xs).length ≤ _; rw [allBytes_length]; omega)).mono fun e w' ⟨he, h1, h2⟩ => ⟨he, by simpa using h1, by_trans (by_below hb (Nat.le_refl _)) h2⟩)
  exact key
set_option maxHeartbeats 400000 in
theorem out_byte (o : Nat) (s : Wr) (A : Option Addr) (n c : Nat) (xs : List Int) (w : World) (hn : xs.length = n) (hx : Ints w w.heap.size A xs) (hlen : xs.length * 8 ≤ 140737488351232) (hr : InRange xs) (h : OutAt w o s) (hs : s.l.length ≤ 140737488351232) :
    Calls Tryz.prog 95 #[.pointer (some ⟨o, 0, none⟩), .slice A n c] w fun e w' => e = .returned (.pointer (some ⟨o, 0, none⟩)) ∧ OutAt w' o (s.nums 1 xs) ∧ w.grownBy w' (some o) := by
  have H := Lib.hid (numbers_any 1 (by omega) o s A n c xs w hn hx hlen hr h hs)
  clear hn hx hlen hr h hs
  go_enter Tryz.func95, Tryz.ntmps95
  go_wp2_with (go_at_call 122; refine H.out.mono ?_; rintro e w1 ⟨rfl, h1, hg1⟩)
  go_ret
  exact ⟨rfl, h1, hg1⟩
set_option maxHeartbeats 400000 in
theorem out_half (o : Nat) (s : Wr) (A : Option Addr) (n c : Nat) (xs : List Int) (w : World) (hn : xs.length = n) (hx : Ints w w.heap.size A xs) (hlen : xs.length * 8 ≤ 140737488351232) (hr : InRange xs) (h : OutAt w o s) (hs : s.l.length ≤ 140737488351232) :
    Calls Tryz.prog 96 #[.pointer (some ⟨o, 0, none⟩), .slice A n c] w fun e w' => e = .returned (.pointer (some ⟨o, 0, none⟩)) ∧ OutAt w' o (s.nums 2 xs) ∧ w.grownBy w' (some o) := by
  have H := Lib.hid (numbers_any 2 (by omega) o s A n c xs w hn hx hlen hr h hs)
  clear hn hx hlen hr h hs
  go_enter Tryz.func96, Tryz.ntmps96
  go_wp2_with (go_at_call 122; refine H.out.mono ?_; rintro e w1 ⟨rfl, h1, hg1⟩)
  go_ret
  exact ⟨rfl, h1, hg1⟩
set_option maxHeartbeats 400000 in
theorem out_word (o : Nat) (s : Wr) (A : Option Addr) (n c : Nat) (xs : List Int) (w : World) (hn : xs.length = n) (hx : Ints w w.heap.size A xs) (hlen : xs.length * 8 ≤ 140737488351232) (hr : InRange xs) (h : OutAt w o s) (hs : s.l.length ≤ 140737488351232) :
    Calls Tryz.prog 126 #[.pointer (some ⟨o, 0, none⟩), .slice A n c] w fun e w' => e = .returned (.pointer (some ⟨o, 0, none⟩)) ∧ OutAt w' o (s.nums 4 xs) ∧ w.grownBy w' (some o) := by
  have H := Lib.hid (numbers_any 4 (by omega) o s A n c xs w hn hx hlen hr h hs)
  clear hn hx hlen hr h hs
  go_enter Tryz.func126, Tryz.ntmps126
  go_wp2_with (go_at_call 122; refine H.out.mono ?_; rintro e w1 ⟨rfl, h1, hg1⟩)
  go_ret
  exact ⟨rfl, h1, hg1⟩
set_option maxHeartbeats 400000 in
theorem out_long (o : Nat) (s : Wr) (A : Option Addr) (n c : Nat) (xs : List Int) (w : World) (hn : xs.length = n) (hx : Ints w w.heap.size A xs) (hlen : xs.length * 8 ≤ 140737488351232) (hr : InRange xs) (h : OutAt w o s) (hs : s.l.length ≤ 140737488351232) :
    Calls Tryz.prog 150 #[.pointer (some ⟨o, 0, none⟩), .slice A n c] w fun e w' => e = .returned (.pointer (some ⟨o, 0, none⟩)) ∧ OutAt w' o (s.nums 8 xs) ∧ w.grownBy w' (some o) := by
  have H := Lib.hid (numbers_any 8 (by omega) o s A n c xs w hn hx hlen hr h hs)
  clear hn hx hlen hr h hs
  go_enter Tryz.func150, Tryz.ntmps150
  go_wp2_with (go_at_call 122; refine H.out.mono ?_; rintro e w1 ⟨rfl, h1, hg1⟩)
  go_ret
  exact ⟨rfl, h1, hg1⟩
theorem out_raw (o : Nat) (s : Wr) (A : Option Addr) (n c : Nat) (xs : List ByteArray) (w : World) (hn : xs.length = n) (hx : Txts w w.heap.size A xs) (hlen : xs.length ≤ 140737488351232) (hsum : (cats xs).length ≤ 140737488351232) (h : OutAt w o s) (hs : s.l.length ≤ 140737488351232) :
    Calls Tryz.prog 97 #[.pointer (some ⟨o, 0, none⟩), .slice A n c] w fun e w' => e = .returned (.pointer (some ⟨o, 0, none⟩)) ∧ OutAt w' o (s.raws xs) ∧ w.grownBy w' (some o) := by
  subst hn
  have key := raws_core (some ⟨o, 0, none⟩) A c xs w hx hlen hsum (fun w' => OutAt w' o (s.lay (cats xs)) ∧ w.grownBy w' (some o))
    (fun w1 hb => (lay_any o s _ w1 (h.below hb) (by rw [Lib.size_eq]; show _ + (cats xs).length ≤ _; omega)).mono fun e w' ⟨he, h1, h2⟩ => ⟨he, by simpa using h1, by_trans (by_below hb (Nat.le_refl _)) h2⟩)
  exact key
theorem ints_new (w : World) (xs : List Int) : Ints (w.alloc (.cells (xs.map (Value.int .i64)).toArray 3)) (w.alloc (.cells (xs.map (Value.int .i64)).toArray 3)).heap.size (some ⟨w.heap.size, 0, none⟩) xs := by
  intro _
  refine ⟨w.heap.size, 0, rfl, by simp, fun j x hx => ?_⟩
  have := (Blk.new w 3 (xs.map (Value.int .i64)).toArray).cell (0 + j)
  rw [this]
  simp [hx]
theorem inRange_one {n : Int} (h0 : -9223372036854775808 ≤ n) (h1 : n ≤ 9223372036854775807) : InRange [n] := by
  intro x hx
  simp at hx
  subst hx
  exact ⟨h0, h1⟩
theorem ints_at (w : World) (cs : Array Value) (xs : List Int) (g : Nat) (hg : w.heap.size = g) (hcs : cs = (xs.map (Value.int .i64)).toArray) :
    Ints (w.alloc (.cells cs 3)) (w.alloc (.cells cs 3)).heap.size (some ⟨g, 0, none⟩) xs := by
  subst hg; subst hcs
  exact ints_new w xs
theorem Wr.ok_zero (l : List UInt8) : (Wr.mk l 0).ok := fun h => (h rfl).elim
set_option maxRecDepth 100000 in
set_option maxHeartbeats 1000000 in
theorem rising_any (A : Option Addr) (n c : Nat) (l : List Int) (w : World) (hn : l.length = n) (hx : Ints w w.heap.size A l) (hb : n ≤ 1000000000000) :
    Calls Tryz.prog 168 #[.slice A n c] w fun e w' => e = .returned (.bool (riseB 0 l)) ∧ w = w' := by
  have HX := Lib.hid hx
  have HN := Lib.hid hn
  obtain ⟨R, hR⟩ : ∃ R, R = riseB 0 l := ⟨_, rfl⟩
  rw [← hR]
  have HR := Lib.hid hR
  have hnI : (n : Int) ≤ 1000000000000 := by omega
  clear hx hn hR
  go_enter Tryz.func168, Tryz.ntmps168
  go_wp2_with fail
  go_loopw [3, 8] (fun v i wr => ∃ (j : Nat) (least : Int), j ≤ n ∧ i = .int .i64 j ∧ v = .int .i64 least ∧ 0 ≤ least ∧ least ≤ 2000 ∧ R = riseB least (l.drop j) ∧ w = wr) (fun _ i _ => n - (intOf i).toNat)
  case atStart => exact ⟨0, 0, Nat.zero_le _, rfl, rfl, by omega, by omega, HR.out, rfl⟩
  case round =>
    obtain ⟨j, least, hj, rfl, rfl, l0, l1, hq, rfl⟩ := hrel
    have HQ := Lib.hid hq
    clear hq
    by_cases hlt : j < n
    · have hjl : j < l.length := by rw [HN.out]; exact hlt
      obtain ⟨b, off, rfl, hbB, hc⟩ := HX.out (by omega)
      obtain ⟨x, hx⟩ : ∃ x, x = l[j] := ⟨_, rfl⟩
      have hcx := hc j x (by rw [hx]; exact List.getElem?_eq_getElem hjl)
      have hdrop : l.drop j = x :: l.drop (j + 1) := by rw [List.drop_eq_getElem_cons hjl, hx]
      have hjI : (j : Int) < (n : Int) := by omega
      by_cases h1 : x < least
      · have HF : Hid (R = false) := Lib.hid (by rw [HQ.out, hdrop]; simp [riseB]; omega)
        clear hc hx hdrop hjl
        go_wp2_with fail
        go_ret
        rw [HF.out]
        exact ⟨rfl, rfl⟩
      · have h1' : least ≤ x := by omega
        by_cases h2 : x < 2000
        · have HS : Hid (R = riseB (x + 1) (l.drop (j + 1))) := Lib.hid (by rw [HQ.out, hdrop]; simp [riseB, h1', h2])
          have hlen : j + 1 ≤ n := hlt
          have hx0 : 0 ≤ x := by omega
          clear hc hx hdrop hjl
          go_wp2_with fail
          go_roundw
          case rel => exact ⟨j + 1, x + 1, hlen, by go_num, rfl, by omega, by omega, HS.out, trivial⟩
          case measure => simp [intOf]; omega
        · have h2' : 2000 ≤ x := by omega
          have HF : Hid (R = false) := Lib.hid (by rw [HQ.out, hdrop]; simp [riseB, h2])
          clear hc hx hdrop hjl
          go_wp2_with fail
          go_ret
          rw [HF.out]
          exact ⟨rfl, rfl⟩
    · obtain rfl : j = n := by omega
      have HF : Hid (R = true) := Lib.hid (by rw [HQ.out, List.drop_of_length_le (by rw [HN.out]; exact Nat.le_refl _)]; rfl)
      go_wp2_with fail
      go_ret
      rw [HF.out]
      exact ⟨rfl, rfl⟩
def HD.val (h : HD) (A : Option Addr) (c : Nat) : Value := .agg #[.int .i64 h.seq, .bool h.full, .slice A h.ts.length c]
structure HD.At (h : HD) (w : World) (A : Option Addr) (c : Nat) : Prop where
  lie : Ints w w.heap.size A h.ts
  few : h.ts.length ≤ 1000000
theorem HD.At.below {h : HD} {w w' : World} {A : Option Addr} {c : Nat} (ha : h.At w A c) (hb : Below w.heap.size w w') : h.At w' A c := ⟨(ha.lie.below hb).more hb.size, ha.few⟩
set_option maxRecDepth 100000 in
set_option maxHeartbeats 1000000 in
theorem hvalid_any (h : HD) (A : Option Addr) (c : Nat) (w : World) (ha : h.At w A c) :
    Calls Tryz.prog 149 #[h.val A c] w fun e w' => e = .returned (.bool h.validB) ∧ Below w.heap.size w w' := by
  obtain ⟨seq, full, ts⟩ := h
  obtain ⟨hlie, hfew⟩ := ha
  simp only at hlie hfew
  unfold HD.val HD.validB
  simp only
  obtain ⟨n, hn⟩ : ∃ n, n = ts.length := ⟨_, rfl⟩
  rw [← hn]
  have HRI : Hid (∀ W, Below w.heap.size w W → Calls Tryz.prog 168 #[.slice A n c] W fun e w' => e = .returned (.bool (riseB 0 ts)) ∧ W = w') := Lib.hid (fun W hb => rising_any A n c ts W hn.symm ((hlie.below hb).more hb.size) (by omega))
  obtain ⟨R, hR⟩ : ∃ R, R = riseB 0 ts := ⟨_, rfl⟩
  rw [← hR] at HRI ⊢
  have hnI : (n : Int) ≤ 1000000 := by omega
  have HB : Hid (∀ o : Obj, Below w.heap.size w (w.alloc o)) := Lib.hid (fun o => (Below.refl _ _).alloc (Nat.le_refl _) _)
  clear hlie hfew hn hR
  by_cases h0 : seq < 0
  · have e1 : decide (0 ≤ seq ∧ seq ≤ 1099511627776) = false := decide_eq_false (by omega)
    rw [e1, Bool.false_and]
    go_enter Tryz.func149, Tryz.ntmps149
    go_wp2_with fail
    go_ret
    exact ⟨rfl, HB.out _⟩
  · have h0' : 0 ≤ seq := by omega
    by_cases h1 : seq ≤ 1099511627776
    · have e1 : decide (0 ≤ seq ∧ seq ≤ 1099511627776) = true := decide_eq_true (by omega)
      rw [e1, Bool.true_and]
      cases full with
      | false =>
        simp only [Bool.false_eq_true, if_false]
        clear e1
        by_cases hz : n = 0
        · subst hz
          go_enter Tryz.func149, Tryz.ntmps149
          go_wp2_with fail
          go_ret
          exact ⟨rfl, HB.out _⟩
        · have hz1 : ((n : Int) == 0) = false := beq_eq_false_iff_ne.2 (by omega)
          have hz2 : decide (n = 0) = false := decide_eq_false hz
          have hz3 : ¬ (n : Int) = 0 := by omega
          rw [hz2]
          clear hz2
          go_enter Tryz.func149, Tryz.ntmps149
          go_wp2_with fail
          go_ret
          exact ⟨rfl, HB.out _⟩
      | true =>
        simp only [if_true]
        clear e1
        by_cases n1 : 1 ≤ n
        · by_cases n2 : n ≤ 110
          · have e2 : decide (1 ≤ n ∧ n ≤ 110) = true := decide_eq_true ⟨n1, n2⟩
            rw [e2, Bool.true_and]
            have n1I : (1 : Int) ≤ (n : Int) := by omega
            have n2I : (n : Int) ≤ 110 := by omega
            clear e2
            go_enter Tryz.func149, Tryz.ntmps149
            go_wp2_with fail
            refine (HRI.out _ (HB.out _)).mono ?_
            rintro e w1 ⟨rfl, rfl⟩
            go_wp2_with fail
            go_ret
            exact ⟨rfl, HB.out _⟩
          · have e2 : decide (1 ≤ n ∧ n ≤ 110) = false := decide_eq_false (by omega)
            rw [e2, Bool.false_and]
            have n1I : (1 : Int) ≤ (n : Int) := by omega
            have n2I : (110 : Int) < (n : Int) := by omega
            clear e2
            go_enter Tryz.func149, Tryz.ntmps149
            go_wp2_with fail
            go_ret
            exact ⟨rfl, HB.out _⟩
        · have e2 : decide (1 ≤ n ∧ n ≤ 110) = false := decide_eq_false (by omega)
          rw [e2, Bool.false_and]
          obtain rfl : n = 0 := by omega
          clear e2
          go_enter Tryz.func149, Tryz.ntmps149
          go_wp2_with fail
          go_ret
          exact ⟨rfl, HB.out _⟩
    · have e1 : decide (0 ≤ seq ∧ seq ≤ 1099511627776) = false := decide_eq_false (by omega)
      rw [e1, Bool.false_and]
      have h1' : 1099511627776 < seq := by omega
      clear e1
      go_enter Tryz.func149, Tryz.ntmps149
      go_wp2_with fail
      go_ret
      exact ⟨rfl, HB.out _⟩
theorem head_var {W : World} {g : Nat} {q : Int} {f : Bool} {A : Option Addr} {n c : Nat} (hb : Blk W g 99 #[.int .i64 q, .bool f, .slice A n c]) :
    (loadVar 99 ⟨g, 0, none⟩).run Tryz.prog W = .ok (.agg #[.int .i64 q, .bool f, .slice A n c]) W :=
  run_var_part (off := 0) hb (fun j v h => by rw [Nat.zero_add]; exact h) (fun w => by kernel_rfl) (fun w => by kernel_rfl)
set_option maxRecDepth 100000 in
set_option maxHeartbeats 1000000 in
theorem hdone_any (h : HD) (A : Option Addr) (c : Nat) (w : World) :
    Calls Tryz.prog 93 #[h.val A c] w fun e w' => e = .returned ((HD.mk h.seq false []).val none 0) ∧ Below w.heap.size w w' := by
  obtain ⟨seq, full, ts⟩ := h
  unfold HD.val
  simp only [List.length_nil]
  go_enter Tryz.func93, Tryz.ntmps93
  go_wp2_with fail
  have b1 : Blk ((w.alloc (.cells #[.int .i64 seq, .bool full, .slice A ts.length c] 99)).alloc (.cells #[.int .i64 seq, .bool false, .slice none 0 0] 99)) (w.heap.size + 1) 99 #[.int .i64 seq, .bool false, .slice none 0 0] := by
    have := Blk.new (w.alloc (.cells #[.int .i64 seq, .bool full, .slice A ts.length c] 99)) 99 #[.int .i64 seq, .bool false, .slice none 0 0]
    rwa [show (w.alloc (.cells #[.int .i64 seq, .bool full, .slice A ts.length c] 99)).heap.size = w.heap.size + 1 by simp] at this
  refine ret_cell rfl rfl (head_var b1) rfl ?_
  exact ⟨rfl, ((Below.refl _ _).alloc (Nat.le_refl _) _).alloc (by simp) _⟩
theorem ret_u32 {a b : Int} (h : a = b) : Ending.returned (.int .u32 a) = .returned (.int .u32 b) := by rw [h]
theorem odd_bit (x : Nat) (h : x < 4294967296) : bits .and .u32 (x : Int) 1 = ((x % 2 : Nat) : Int) := by
  show bits .and .u32 (x : Int) ((1 : Nat) : Int) = _
  rw [u32_and_nat x 1 h (by omega), Nat.and_one_is_mod]
theorem half_cast (x : Nat) : (x : Int) / 2 = ((x / 2 : Nat) : Int) := by omega
theorem poly_cast (x : Nat) (h : x < 4294967296) : bits .xor .u32 (((x / 2 : Nat) : Int)) 3988292384 = (((x / 2) ^^^ 3988292384 : Nat) : Int) := u32_xor_nat (x / 2) 3988292384 (by omega) (by omega)
theorem shift1_odd {x : Nat} (h : x % 2 = 1) : shift1 x = (x / 2) ^^^ 3988292384 := by unfold shift1; rw [if_pos h]
theorem shift1_even {x : Nat} (h : ¬ x % 2 = 1) : shift1 x = x / 2 := by unfold shift1; rw [if_neg h]
set_option maxHeartbeats 400000 in
theorem step_any (x : Nat) (w : World) (hx : x < 4294967296) :
    Calls Tryz.prog 152 #[.int .u32 x] w fun e w' => e = .returned (.int .u32 (shifts 8 x)) ∧ w = w' := by
  go_enter Tryz.func152, Tryz.ntmps152
  go_wp2
  go_loop [0, 4] (fun v i => ∃ j : Nat, j ≤ 8 ∧ i = .int .i64 j ∧ v = .int .u32 (shifts j x)) (fun _ i => 8 - (intOf i).toNat)
  case atStart => exact ⟨0, Nat.zero_le _, rfl, rfl⟩
  case round =>
    obtain ⟨j, hj, rfl, rfl⟩ := hrel
    by_cases hlt : j < 8
    · have hy := shifts_lt j hx
      have hs : shifts (j + 1) x = shift1 (shifts j x) := rfl
      have HS := Lib.hid hs
      clear hs
      generalize shifts j x = y at *
      by_cases ho : y % 2 = 1
      · have e1 : (bits .and .u32 (y : Int) 1 != 0) = true := by rw [odd_bit y hy, ho]; rfl
        have HO := Lib.hid (shift1_odd ho)
        clear ho
        go_wp2
        go_round
        case rel => exact ⟨j + 1, by omega, by go_num, by rw [HS.out, HO.out, half_cast, poly_cast y hy]⟩
        case measure => simp [intOf]; omega
      · have e1 : (bits .and .u32 (y : Int) 1 != 0) = false := by rw [odd_bit y hy, show y % 2 = 0 by omega]; rfl
        have HO := Lib.hid (shift1_even ho)
        clear ho
        go_wp2
        go_round
        case rel => exact ⟨j + 1, by omega, by go_num, by rw [HS.out, HO.out, half_cast]⟩
        case measure => simp [intOf]; omega
    · obtain rfl : j = 8 := by omega
      go_wp2
      go_ret
      exact ⟨rfl, rfl⟩
theorem byte_cast (x : Nat) (b : UInt8) (h : x < 4294967296) : bits .xor .u32 (x : Int) ((b.toNat : Int) % 4294967296) = ((x ^^^ b.toNat : Nat) : Int) := by
  have hb := b.toNat_lt
  rw [Int.emod_eq_of_lt (by omega) (by omega), u32_xor_nat x b.toNat h (by omega)]
theorem fold_next {x : ByteArray} {k : Nat} (s : Nat) (hk : k < x.size) : crcFold s (x.data.toList.take (k + 1)) = crcByte (crcFold s (x.data.toList.take k)) x[k] := by
  rw [List.take_succ_eq_append_getElem (by rw [Array.length_toList]; exact hk), crcFold_snoc]
  rfl
theorem crcByte_shifts (x : Nat) (b : UInt8) : crcByte x b = shifts 8 (x ^^^ b.toNat) := rfl
theorem last_xor (x : Nat) (h : x < 4294967296) : bits .xor .u32 (x : Int) 4294967295 = ((x ^^^ 4294967295 : Nat) : Int) := by
  show bits .xor .u32 (x : Int) ((4294967295 : Nat) : Int) = _
  rw [u32_xor_nat x 4294967295 h (by omega)]
theorem crc_cats (l : List ByteArray) : ((crcFold 4294967295 (cats l) ^^^ 4294967295 : Nat) : Int) = (crc (cats l) : Int) := rfl
set_option maxRecDepth 100000 in
set_option maxHeartbeats 1000000 in
theorem of_any (A : Option Addr) (n c : Nat) (xs : List ByteArray) (w : World) (hn : xs.length = n) (hx : Txts w w.heap.size A xs) (hlen : xs.length ≤ 140737488351232) (hsz : ∀ x ∈ xs, x.size ≤ 140737488351232) :
    Calls Tryz.prog 127 #[.slice A n c] w fun e w' => e = .returned (.int .u32 (crc (cats xs))) ∧ w = w' := by
  have HX := Lib.hid hx
  have HZ := Lib.hid hsz
  rw [hn] at hlen
  have HN := Lib.hid hn
  clear hx hsz hn
  go_enter Tryz.func127, Tryz.ntmps127
  go_wp2
  go_loop [3, 9] (fun v i => ∃ j : Nat, j ≤ n ∧ i = .int .i64 j ∧ v = .int .u32 (crcFold 4294967295 (cats (xs.take j)))) (fun _ i => n - (intOf i).toNat)
  case atStart => exact ⟨0, Nat.zero_le _, rfl, rfl⟩
  case round =>
    obtain ⟨j, hj, rfl, rfl⟩ := hrel
    have hs := crcFold_lt (cats (xs.take j)) (x := 4294967295) (by omega)
    by_cases hlt : j < n
    · have hxl : j < xs.length := by rw [HN.out]; exact hlt
      obtain ⟨b, off, hA, hbB, hc⟩ := HX.out (by omega)
      obtain ⟨x, hx⟩ : ∃ x, x = xs[j] := ⟨_, rfl⟩
      have hxj : xs[j]? = some x := by rw [hx]; exact List.getElem?_eq_getElem hxl
      have hcx : w.cell? ⟨b, off + j, none⟩ = some (.string x) := hc j x hxj
      have hsx := HZ.out x (by rw [hx]; exact List.getElem_mem hxl)
      have E1 := Lib.hid (cats_snoc hxj)
      clear hxj hc hx
      subst hA
      obtain ⟨s, hs0⟩ : ∃ s, s = crcFold 4294967295 (cats (xs.take j)) := ⟨_, rfl⟩
      rw [← hs0] at hs ⊢
      have HS := Lib.hid hs0
      clear hs0
      go_wp2
      go_loop [3, 15] (fun v i => ∃ k : Nat, k ≤ x.size ∧ i = .int .i64 k ∧ v = .int .u32 (crcFold s (x.data.toList.take k))) (fun _ i => x.size - (intOf i).toNat)
      case atStart => exact ⟨0, Nat.zero_le _, rfl, rfl⟩
      case round =>
        obtain ⟨k, hk, rfl, rfl⟩ := hrel
        have ht := crcFold_lt (x.data.toList.take k) hs
        by_cases hkx : k < x.size
        · have hf := fold_next s hkx
          obtain ⟨t, ht0⟩ : ∃ t, t = crcFold s (x.data.toList.take k) := ⟨_, rfl⟩
          rw [← ht0] at ht hf ⊢
          have HF := Lib.hid hf
          have HB := Lib.hid (byte_cast t x[k] ht)
          have hl := byte_xor_lt x[k] ht
          clear ht0 hf
          go_wp2_with fail
          rw [HB.out]
          refine (step_any _ _ hl).mono ?_
          rintro e w1 ⟨rfl, rfl⟩
          go_wp2_with fail
          go_round
          case rel => exact ⟨k + 1, by omega, by go_num, by rw [HF.out, crcByte_shifts]⟩
          case measure => simp [intOf]; omega
        · have hk2 : x.data.toList.take k = x.data.toList := List.take_of_length_le (by rw [Array.length_toList]; show x.size ≤ k; omega)
          rw [hk2]
          clear hk2
          go_wp2
          go_round
          case rel => exact ⟨j + 1, by omega, by go_num, by rw [E1.out, crcFold_append, HS.out]⟩
          case measure => simp [intOf]; omega
    · obtain rfl : j = n := by omega
      have htk : xs.take j = xs := List.take_of_length_le (by rw [HN.out]; exact Nat.le_refl _)
      rw [htk] at hs ⊢
      have HL := Lib.hid (last_xor _ hs)
      clear htk
      go_wp2
      go_ret
      exact ⟨ret_u32 (by rw [HL.out, crc_cats]), rfl⟩
def roomB (n : Int) (l : List UInt8) : Bool := decide ((l.length : Int) ≤ n)
set_option maxHeartbeats 400000 in
theorem fit_any (n : Int) (A : Option Addr) (m c : Nat) (xs : List ByteArray) (w : World) (hm : xs.length = m) (hx : Txts w w.heap.size A xs) (hlen : xs.length ≤ 140737488351232) (hsz : ∀ x ∈ xs, x.size ≤ 140737488351232) (h0 : 0 ≤ n) (h1 : n ≤ 65536) :
    Calls Tryz.prog 124 #[.int .i64 n, .slice A m c] w fun e w' => e = .returned (.bool (roomB n (cats xs))) ∧ w = w' := by
  have HX := Lib.hid hx
  have HZ := Lib.hid hsz
  rw [hm] at hlen
  have HM := Lib.hid hm
  clear hx hsz hm
  go_enter Tryz.func124, Tryz.ntmps124
  go_wp2
  go_loop [0, 9] (fun v i => ∃ (j r : Nat), j ≤ m ∧ i = .int .i64 j ∧ v = .int .i64 r ∧ r + (cats (xs.take j)).length = n.toNat) (fun _ i => m - (intOf i).toNat)
  case atStart => exact ⟨0, n.toNat, Nat.zero_le _, rfl, by rw [Int.toNat_of_nonneg h0], by simp [cats]⟩
  case round =>
    obtain ⟨j, r, hj, rfl, rfl, hr⟩ := hrel
    have hrb : r ≤ 65536 := by omega
    have HR := Lib.hid hr
    clear hr
    by_cases hlt : j < m
    · have hxl : j < xs.length := by rw [HM.out]; exact hlt
      obtain ⟨b, off, hA, hbB, hc⟩ := HX.out (by omega)
      obtain ⟨x, hx⟩ : ∃ x, x = xs[j] := ⟨_, rfl⟩
      have hxj : xs[j]? = some x := by rw [hx]; exact List.getElem?_eq_getElem hxl
      have hcx : w.cell? ⟨b, off + j, none⟩ = some (.string x) := hc j x hxj
      have hsx := HZ.out x (by rw [hx]; exact List.getElem_mem hxl)
      have E1 := Lib.hid (cats_snoc hxj)
      have E2 := Lib.hid (cats_len hxj)
      clear hxj hc hx
      subst hA
      by_cases hbig : r < x.size
      · have hno : roomB n (cats xs) = false := decide_eq_false (by have := E2.out; have := HR.out; omega)
        have HNO := Lib.hid hno
        clear hno
        go_wp2
        go_ret
        rw [HNO.out]
        exact ⟨rfl, rfl⟩
      · have hsm : x.size ≤ r := by omega
        clear hbig
        go_wp2
        go_round
        case rel => exact ⟨j + 1, r - x.size, by omega, by go_num, by rw [Int.ofNat_sub hsm], by rw [E1.out, List.length_append, ← Lib.size_eq]; have := HR.out; omega⟩
        case measure => simp [intOf]; omega
    · obtain rfl : j = m := by omega
      have htk : xs.take j = xs := List.take_of_length_le (by rw [HM.out]; exact Nat.le_refl _)
      have hyes : roomB n (cats xs) = true := decide_eq_true (by have := HR.out; rw [htk] at this; omega)
      have HYES := Lib.hid hyes
      clear htk hyes
      go_wp2
      go_ret
      rw [HYES.out]
      exact ⟨rfl, rfl⟩
end Go.Proofs.YtiagofgcinlnhaaGreatDoor
