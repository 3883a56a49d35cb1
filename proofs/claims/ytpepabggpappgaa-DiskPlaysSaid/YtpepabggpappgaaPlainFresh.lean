/-
  The document's disk, made. No statement is proved here.
-/
import Derived.Test.YtpepabggpappgaaPlainFlush
namespace Go.Proofs.Ytpepabggpappgaa
open Go.RowKit

set_option maxRecDepth 100000 in
set_option maxHeartbeats 4000000 in
theorem pfresh_any (q : Int) (n : Nat) (w : World) (hq : q = (n : Int)) (h1 : 140 ≤ q) (h2 : q ≤ 2000) :
    Calls Try.prog 7 #[.int .i64 q] w fun e w' => ∃ g O, e = .returned (.pointer (some ⟨g, 0, none⟩)) ∧ PlainAt w' w.heap.size O g (DS.fresh n (zeroB 256)) ∧ Below w.heap.size w w' := by
  obtain ⟨z, hz⟩ : ∃ z, z = zeroB 256 := ⟨_, rfl⟩
  have HZ : Hid (∀ w, Calls Try.prog 18 #[.int .i64 256] w fun e w' => e = .returned (.string z) ∧ Below w.heap.size w w') := Lib.hid (fun w => by rw [hz]; exact ref_zeros 256 w (by omega))
  rw [← hz]
  obtain ⟨i0, hi0, hz0, hz1, hz2⟩ := info_parts cltexts_info
  have HNB : Hid (140 ≤ n ∧ n ≤ 2000) := Lib.hid (by omega)
  have HQ := Lib.hid hq
  have hmk : (Instr.makeSlice 51 (.int .i64 q) (.int .i64 q)).run Try.prog w = .ok (.slice (some ⟨w.heap.size, 0, none⟩) n n) (w.alloc (.cells (repC z 0 n).toArray 9)) := by
    have hr := run_makeSlice (P := Try.prog) w 51 9 i0 (.string .empty) Try.underlying51 hi0 hz0 .i64 .i64 q q (by omega) (Int.le_refl _) (by rw [hz1]; omega) (by rw [hz2]; omega) (by omega)
    have hc : madeCells (Value.string .empty).cells (q.toNat * i0.size) = (repC z 0 n).toArray := by
      rw [hz1, Nat.mul_one, hq, Int.toNat_natCast]
      refine Array.toList_inj.1 ?_
      rw [show (Value.string .empty).cells = #[Value.string .empty] from rfl, toList_madeCells_one]
      simp [repC]
    rw [hc, show q.toNat = n by omega] at hr
    exact hr
  obtain ⟨W, hW⟩ : ∃ W, W = w.alloc (.cells (repC z 0 n).toArray 9) := ⟨_, rfl⟩
  rw [← hW] at hmk
  have HB0 : Hid (Blk W w.heap.size 9 (repC z 0 n).toArray) := Lib.hid (by rw [hW]; exact Blk.new w _ _)
  have HK0 : Hid (Below w.heap.size w W) := Lib.hid (by rw [hW]; exact (Below.refl _ _).alloc (Nat.le_refl _) _)
  clear hq hz hW h1 h2
  go_enter Try.func7, Try.ntmps7
  go_wp2_with fail
  clear hmk
  go_loopw [9] (fun i wr => ∃ k : Nat, k ≤ n ∧ i = .int .i64 k ∧ Blk wr w.heap.size 9 (repC z k n).toArray ∧ Below w.heap.size w wr) (fun i _ => n - (intOf i).toNat)
  case atStart => exact ⟨0, Nat.zero_le _, rfl, HB0.out, HK0.out⟩
  case round =>
    obtain ⟨k, hk, rfl, hb, hbe⟩ := hrel
    have HB := Lib.hid hb
    have HBE := Lib.hid hbe
    have hwl := hb.lt
    clear hb hbe HB0 HK0
    by_cases hlt : k < n
    · have hkn : (k : Int) ≤ 2000 := by have := HNB.out; omega
      go_wp2_with fail
      refine (HZ.out _).mono ?_
      rintro e w2 ⟨rfl, hb2⟩
      have HB2 := Lib.hid (HB.out.below hb2 hwl)
      have HBE2 := Lib.hid (HBE.out.trans (hb2.mono HBE.out.size))
      have c0 : w2.cell? ⟨w.heap.size, k, none⟩ = some ((repC z k n)[k]'(by rw [repC_len z hk]; exact hlt)) := by
        rw [HB2.out.cell, List.getElem?_toArray, List.getElem?_eq_getElem]
      have c1 : (repC z k n)[k]'(by rw [repC_len z hk]; exact hlt) = .string .empty := by
        unfold repC
        rw [List.getElem_append_right (by simp)]
        simp
      rw [c1] at c0
      have f0 := HB2.out.frozen k
      have HN : Hid ((repC z k n).toArray.setIfInBounds k (.string z) = (repC z (k + 1) n).toArray) := Lib.hid (by
        have h := repC_next z (k := k) (d := 1) (n := n) (by omega)
        rw [← h, List.setIfInBounds_toArray]
        congr 1
        apply List.ext_getElem?
        intro i
        have hl := repC_len z hk
        simp only [List.getElem?_set, List.getElem?_append, List.length_append, List.length_take, List.length_replicate, List.getElem?_take, List.getElem?_drop, List.getElem?_replicate, hl]
        have e1 : min k n = k := by omega
        simp only [e1]
        by_cases h1 : i < k
        · simp [h1, show ¬ k = i by omega, show i < k + 1 by omega]
        · by_cases h2 : i = k
          · subst h2; simp [hlt]
          · simp [show ¬ k = i by omega, show ¬ i < k + 1 by omega, show k + 1 + (i - (k + 1)) = i by omega])
      clear c1 hb2 hwl
      go_wp2_with fail
      go_roundw
      case rel => exact ⟨k + 1, hlt, by go_num, by rw [← HN.out]; exact HB2.out.put k _, HBE2.out.setCell (Nat.le_refl _) _⟩
      case measure => simp [intOf]; omega
    · obtain rfl : k = n := by omega
      have hrow : wr.ownsRow w.heap.size 9 1 (.slice (some ⟨w.heap.size, 0, none⟩) k k) k (repC z k k) := ⟨by rw [repC_len z (Nat.le_refl k)]; omega, .inr ⟨w.heap.size, k, _, rfl, Nat.le_refl _, HB.out, Nat.le_refl _, by have := HNB.out; unfold maxLen; omega, by rw [List.size_toArray, repC_len z (Nat.le_refl k)]; omega, by
        rw [List.toList_toArray, Nat.mul_one]
        exact List.take_of_length_le (by rw [repC_len z (Nat.le_refl k)]; exact Nat.le_refl _)⟩⟩
      rw [repC_all] at hrow
      obtain ⟨K, hK⟩ : ∃ K, K = List.replicate k z := ⟨_, rfl⟩
      rw [← hK] at hrow
      have HROW := Lib.hid hrow
      have HKL : Hid (K.length = k) := Lib.hid (by rw [hK, List.length_replicate])
      have HKE := Lib.hid hK
      have HNW : Hid (∀ (j : Nat) (u : Value), (K.map Value.string)[j]? = some u → wr.cell? ((⟨w.heap.size, 0, none⟩ : Addr).add j) = some u) := Lib.hid (fun j u hu => by
        rw [Go.WideShapes.add_plain, Nat.zero_add]
        exact row_cell hrow hu)
      have HON : Hid (∀ u ∈ K.map Value.string, u.oneCell' = true) := Lib.hid (fun u hu => by
        obtain ⟨x, _, rfl⟩ := List.mem_map.1 hu
        rfl)
      have HKM : Hid ((K.map Value.string).length = k * 1) := Lib.hid (by rw [List.length_map, HKL.out]; omega)
      have hn2 : k ≤ 100000 := by have := HNB.out; omega
      have hnp : 0 < k := by have := HNB.out; omega
      clear hK hrow hlt hk
      go_upto_region 7 with fail
      go_wp2_with (at_builtin; refine wpList_append_lies _ rfl (.const (.slice none 0 0)) (.tmp 18) 51 rfl wr.heap.size 9 i0 (.string .empty) 1 16 Try.underlying51 hi0 hz0 hz1 hz2 rfl (by omega) (.slice none 0 0) 0 [] rfl (World.ownsRow_nil _ _ _ _) ⟨w.heap.size, 0, none⟩ k k (K.map Value.string) rfl HKM.out HNW.out HON.out hnp (by unfold maxLen; omega) (by omega) (Nat.le_refl _) _ rfl ?_; intro gq cq w1 hown1 hg1 hor hlt1; have HOW := Lib.hid hown1; have HG1 := Lib.hid hg1; clear hown1 hg1 hor)
      go_ret
      have hgq : wr.heap.size ≤ gq := (HOW.out.lt gq rfl).1
      have hgqw : gq < w1.heap.size := (HOW.out.lt gq rfl).2
      have hk1 : Below wr.heap.size wr w1 := ⟨HG1.out.os, HG1.out.tape, HG1.out.output, HG1.out.size, fun i hi => HG1.out.block i hi (by simp [Value.ownBlock])⟩
      have hwr := HBE.out.size
      have hw1 := HG1.out.size
      have e1 : K.length = k := HKL.out
      refine ⟨w1.heap.size, w1.heap.size :: ((Value.slice (some ⟨w.heap.size, 0, none⟩) k k).ownBlock.toList ++ ((Value.slice (some ⟨gq, 0, none⟩) k cq).ownBlock.toList ++ (Value.slice none 0 0).ownBlock.toList)), rfl, ⟨_, _, _, 0, none, 0, 0, rfl, ⟨?_, ?_, ?_, World.ownsRow_nil _ _ _ _, (fun h => by cases h), ?_, by omega⟩⟩, (HBE.out.trans (hk1.mono hwr)).alloc (by omega) _⟩
      · exact Blk.new w1 _ _
      · show World.ownsRow _ _ _ 1 _ (List.replicate k z).length ((List.replicate k z).map Value.string)
        rw [← HKE.out, e1]
        exact (row_kept HROW.out (fun b e => by cases e; exact hk1.block _ hwl)).alloc _
      · show World.ownsRow _ _ _ 1 _ (List.replicate k z).length ((List.replicate k z).map Value.string)
        rw [← HKE.out, e1]
        have := row_mono HOW.out (show w.heap.size ≤ wr.heap.size from hwr)
        refine World.ownsRow.alloc ?_ _
        simpa using this
      · simp only [Value.ownBlock, Option.toList_some, Option.toList_none, List.append_nil, List.singleton_append, List.nodup_cons, List.mem_cons, List.not_mem_nil, or_false, not_or, List.nodup_nil, and_true, not_false_eq_true]
        exact ⟨⟨by omega, by omega⟩, by omega⟩
end Go.Proofs.Ytpepabggpappgaa
