/-
  The writer's Pad and End.
-/
import Derived.Test.YtbaanoomilohhaaGreatDoorOut
import Derived.Laws.CopyOwn
import Derived.Lib.BufferWrite
import Derived.BigRegion
namespace Go.Proofs.YtbaanoomilohhaaGreatDoor
open Go.RowKit

theorem repeat_zero (c : Nat) : Lib.repeatL [0] c = List.replicate c (0 : UInt8) := by
  induction c with
  | zero => rfl
  | succ c ih => rw [Lib.repeatL, ih, List.replicate_succ]; rfl

set_option maxHeartbeats 400000 in
theorem pad_nil (n : Int) (w : World) :
    Calls Tryz.prog 100 #[.pointer none, .int .i64 n] w fun e w' => e = .returned (.pointer none) ∧ w = w' := by
  go_enter Tryz.func100, Tryz.ntmps100
  go_wp2_with fail
  go_ret
  exact ⟨rfl, rfl⟩

set_option maxHeartbeats 800000 in
theorem pad_any (o : Nat) (s : Wr) (n : Int) (w : World) (h : OutAt w o s) (hs : s.l.length ≤ 140737488351232) :
    Calls Tryz.prog 100 #[.pointer (some ⟨o, 0, none⟩), .int .i64 n] w fun e w' => e = .returned (.pointer (some ⟨o, 0, none⟩)) ∧ OutAt w' o (s.pad n) ∧ w.grownBy w' (some o) := by
  have H := Lib.hid h
  obtain ⟨p, r, h1, h2, h3⟩ := h
  have c1 := h1.cell 1
  simp at c1
  clear h1 h2 h3
  by_cases h0 : n < 0
  · have R : s.pad n = s.fail 1 := by unfold Wr.pad; rw [if_pos (.inl h0)]
    rw [R]
    clear R
    go_enter Tryz.func100, Tryz.ntmps100
    go_wp2_with (go_at_call 109; refine (fail_any o s 1 _ H.out).mono ?_; rintro e w1 ⟨rfl, h1, hg1⟩)
    go_ret
    exact ⟨rfl, h1, hg1⟩
  · obtain ⟨m, rfl⟩ := Int.eq_ofNat_of_zero_le (show 0 ≤ n by omega)
    clear h0
    by_cases hb : 65536 < m
    · have R : s.pad m = s.fail 1 := by unfold Wr.pad; rw [if_pos (.inr (by omega))]
      rw [R]
      clear R
      go_enter Tryz.func100, Tryz.ntmps100
      go_wp2_with (go_at_call 109; refine (fail_any o s 1 _ H.out).mono ?_; rintro e w1 ⟨rfl, h1, hg1⟩)
      go_ret
      exact ⟨rfl, h1, hg1⟩
    · have hb' : m ≤ 65536 := by omega
      clear hb
      by_cases hl : m < s.l.length
      · have R : s.pad m = s.fail 2 := by unfold Wr.pad; rw [if_neg (by omega), if_pos (by omega)]
        rw [R]
        clear R
        go_enter Tryz.func100, Tryz.ntmps100
        go_wp2_with (go_at_call 109; refine (fail_any o s 2 _ H.out).mono ?_; rintro e w1 ⟨rfl, h1, hg1⟩)
        go_ret
        exact ⟨rfl, h1, hg1⟩
      · have hl' : s.l.length ≤ m := by omega
        have R : s.pad m = s.lay (List.replicate (m - s.l.length) 0) := by unfold Wr.pad; rw [if_neg (by omega), if_neg (by omega)]; rfl
        rw [R]
        clear R hl
        have e1 : (⟨(Lib.repeatL (ByteArray.mk #[0]).data.toList (m - s.l.length)).toArray⟩ : ByteArray).data.toList = List.replicate (m - s.l.length) 0 := by
          show Lib.repeatL [0] _ = _
          exact repeat_zero _
        have E1 := Lib.hid e1
        clear e1
        go_enter Tryz.func100, Tryz.ntmps100
        go_wp2_with fail
        rw [show ((m : Int) - (s.l.length : Int)) = ((m - s.l.length : Nat) : Int) from by omega]
        refine (repeat_any ⟨#[0]⟩ (m - s.l.length) _ (by omega) (by show 1 * _ ≤ _; omega)).mono ?_
        rintro e w1 ⟨rfl, hb1⟩
        go_wp2_with (go_at_call 110; refine (lay_any o s _ w1 (H.out.below hb1) (by rw [Lib.size_eq, E1.out]; simp; omega)).mono ?_; rintro e w2 ⟨rfl, h2, hg2⟩)
        go_ret
        exact ⟨rfl, by rw [E1.out] at h2; exact h2, by_trans (by_below hb1 (Nat.le_refl _)) hg2⟩

set_option maxHeartbeats 400000 in
theorem fin_nil (w : World) :
    Calls Tryz.prog 82 #[.pointer none] w fun e w' => e = .returned (.tuple #[.string .empty, .int .i64 1]) ∧ w = w' := by
  go_enter Tryz.func82, Tryz.ntmps82
  go_wp2_with fail
  go_ret2
  exact ⟨rfl, rfl⟩

set_option maxRecDepth 100000 in
set_option maxHeartbeats 2000000 in
theorem fin_any (o : Nat) (s : Wr) (w : World) (h : OutAt w o s) (hok : s.ok) (hs : s.l.length ≤ 140737488351232) :
    Calls Tryz.prog 82 #[.pointer (some ⟨o, 0, none⟩)] w fun e w' => e = .returned (.tuple #[.string ⟨s.l.toArray⟩, .int .i64 s.e]) ∧ OutAt w' o s ∧ Below w.heap.size w w' := by
  have H := Lib.hid h
  obtain ⟨p, r, h1, h2, h3⟩ := h
  have c0 := h1.cell 0
  have c1 := h1.cell 1
  have c2 := h1.cell 2
  simp at c0 c1 c2
  have hl := h1.lt
  have H2 := Lib.hid h2
  have H3 := Lib.hid h3
  clear h1 h2 h3
  by_cases he : s.e = 0
  · have HE := Lib.hid he
    rw [he] at c2
    clear he hok
    obtain ⟨i0, hi, hz0, hz1, hz2⟩ := info_parts (show (Tryz.prog.info? 5).map (fun i => (i.zero, i.size, i.bytes)) = some (some (.int .u8 0), 1, 1) by kernel_rfl)
    obtain ⟨n, hn⟩ : ∃ n, n = s.l.length := ⟨_, rfl⟩
    rw [← hn] at hs c1
    have HN := Lib.hid hn
    clear hn
    obtain ⟨M, hM⟩ : ∃ M, M = madeCells (Value.int .u8 0).cells (((n : Nat) : Int).toNat * i0.size) := ⟨_, rfl⟩
    have hMs : M.size = n := by rw [hM, size_madeCells, hz1]; simp
    have hmk : ∀ W : World, (Instr.makeSlice 68 (.int .i64 (n : Int)) (.int .i64 (n : Int))).run Tryz.prog W = .ok (.slice (some ⟨W.heap.size, 0, none⟩) n n) (W.alloc (.cells M 5)) := fun W => by
      have h := run_make (P := Tryz.prog) W 68 5 i0 (.int .u8 0) Tryz.underlying68 hi hz0 .i64 .i64 (n : Int) (n : Int) (by omega) (by omega) (by rw [hz2]; omega) (by omega)
      rw [← hM] at h
      simpa using h
    have HMS := Lib.hid hMs
    clear hM hMs
    go_enter Tryz.func82, Tryz.ntmps82
    go_wp2_with fail
    go_loopw [5, 6] (fun a v wr => ∃ (rem : List (Nat × ByteArray)) (pc : Option Addr) (tail : List UInt8) (cur : Array Value), Chain w o pc rem ∧ cat rem ++ tail = s.l ∧ a = .int .i64 (cat rem).length ∧ v = .pointer pc ∧
        wr.heap[w.heap.size]? = some (.cells cur 5 (0, 0)) ∧ cur.size = n ∧ cur.toList.drop (cat rem).length = Lib.byteCells tail ∧ Below w.heap.size w wr)
      (fun a _ _ => (intOf a).toNat)
    case atStart =>
      refine ⟨r, p, [], M, H2.out, by rw [H3.out]; simp, by rw [H3.out, HN.out], rfl, heap_alloc_new w _, HMS.out, ?_, (Below.refl _ _).alloc (Nat.le_refl _) _⟩
      rw [List.drop_of_length_le (by rw [H3.out, Array.length_toList, HMS.out, HN.out]; exact Nat.le_refl _)]
      rfl
    case round =>
      obtain ⟨rem, pc, tail, cur, hch, hcat, rfl, rfl, hcur, hcsz, hdrop, hbr⟩ := hrel
      have HCAT := Lib.hid hcat
      have HDROP := Lib.hid hdrop
      clear hcat hdrop
      match rem, hch with
      | [], hch =>
        obtain rfl : pc = none := hch
        have htl : tail = s.l := HCAT.out
        have hcl : cur.toList = Lib.byteCells s.l := by rw [← htl]; exact HDROP.out
        have hcv := run_convert_bytes_back (P := Tryz.prog) wr 68 9 5 ⟨w.heap.size, 0, none⟩ n s.l Tryz.underlying68 Tryz.underlying5 Tryz.underlying9
          (fun i hi => Lib.cells_of_row hcur s.l.length i _ (by rw [List.take_of_length_le (by rw [hcl, Lib.byteCells_length]; exact Nat.le_refl _), hcl]; simp [Lib.byteCells, List.getElem?_eq_getElem hi]))
        rw [← HN.out] at hcv
        clear htl hcl hcur hcsz
        go_wp2_with fail
        go_ret2
        exact ⟨by rw [HE.out]; rfl, H.out.below hbr, hbr⟩
      | (qb, sb) :: rem', hch =>
        obtain ⟨rfl, hqo, hsz, p', hq, hch'⟩ := hch
        have hq' := hq.below hbr hq.lt
        have d0 := hq'.cell 0
        have d1 := hq'.cell 1
        simp at d0 d1
        have hlen : (cat ((qb, sb) :: rem')).length = (cat rem').length + sb.size := by rw [cat, List.length_append, Lib.size_eq]
        have hle : (cat ((qb, sb) :: rem')).length ≤ n := by
          have := congrArg List.length HCAT.out
          rw [List.length_append] at this
          rw [HN.out]
          omega
        obtain ⟨a', ha'⟩ : ∃ a', a' = (cat rem').length := ⟨_, rfl⟩
        rw [hlen, ← ha'] at hle ⊢
        have HA := Lib.hid ha'
        have HLEN := Lib.hid hlen
        have hcp := Lib.run_copy_row_string (P := Tryz.prog) wr.drew 68 9 3 5 w.heap.size a' (n - a') (n - a') sb cur 5 Tryz.underlying68 (by rw [hi]; simp [hz1]) hcur (by omega) (by rw [hcsz]; omega)
        obtain ⟨Y, hY⟩ : ∃ Y, Y = (cur.toList.take a' ++ Lib.byteCells sb.data.toList ++ cur.toList.drop (a' + sb.size)).toArray := ⟨_, rfl⟩
        rw [← hY] at hcp
        have HY := Lib.hid hY
        have HCH := Lib.hid hch'
        have HCS := Lib.hid hcsz
        have hqne : qb ≠ w.heap.size := by have := hq.lt; omega
        have hd0 : (wr.drew.setRow w.heap.size Y).cell? ⟨qb, 0, none⟩ = some (.pointer p') :=
          (World.cell?_of_block (w := wr.drew) (setRow_other wr.drew w.heap.size qb Y hqne)).trans d0
        have hb' : Below w.heap.size w (wr.drew.setRow w.heap.size Y) := below_setRow hbr.drew (Nat.le_refl _) Y
        have hcur' : (wr.drew.setRow w.heap.size Y).heap[w.heap.size]? = some (.cells Y 5 (0, 0)) := setRow_heap wr.drew w.heap.size cur Y 5 (0, 0) hcur
        have HCUR := Lib.hid hcur'
        clear ha' hlen hY hq hq' hch' hcsz hcur'
        go_wp2_with fail
        go_region
        go_wp2_with fail
        go_roundw
        case rel =>
          refine ⟨rem', p', sb.data.toList ++ tail, Y, HCH.out, ?_, by rw [HA.out], rfl, HCUR.out, ?_, ?_, hb'⟩
          · rw [← HCAT.out, cat, List.append_assoc]
          · rw [HY.out, ← Array.length_toList, List.toList_toArray, List.length_append, List.length_append, List.length_take, List.length_drop, Array.length_toList, HCS.out, Lib.byteCells_length, ← Lib.size_eq]
            omega
          · have hd := HDROP.out
            rw [HLEN.out] at hd
            rw [← HA.out] at hd ⊢
            rw [HY.out, List.toList_toArray, List.append_assoc, List.drop_append_of_le_length (by rw [List.length_take, Array.length_toList, HCS.out]; omega),
              List.drop_of_length_le (by rw [List.length_take]; omega), List.nil_append, hd, Lib.byteCells_append]
        case measure => simp [intOf]; omega
  · have hl0 : s.l = [] := hok he
    have hc : (s.e != 0) = true := by rw [bne_iff_ne]; exact he
    rw [hl0]
    go_enter Tryz.func82, Tryz.ntmps82
    go_wp2_with fail
    go_quiet (fail)
    go_wp2_with fail
    go_ret2
    have hb : Below w.heap.size w (w.drewN nq) := ⟨rfl, rfl, rfl, Nat.le_refl _, fun _ _ => rfl⟩
    exact ⟨rfl, H.out.below hb, hb⟩
end Go.Proofs.YtbaanoomilohhaaGreatDoor
