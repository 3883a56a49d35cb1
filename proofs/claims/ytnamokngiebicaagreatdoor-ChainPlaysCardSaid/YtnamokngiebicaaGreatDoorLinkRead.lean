/-
  Package chain's read, of any bytes. No statement is proved here.
-/
import Derived.Test.YtnamokngiebicaaGreatDoorLinkSmall
import Derived.Test.YtnamokngiebicaaGreatDoorMarkRet
namespace Go.Proofs.YtnamokngiebicaaGreatDoor
open Go.RowKit

theorem openB_le (l : List UInt8) : (openB l).1.length ≤ l.length := by
  unfold openB
  split
  · simp
  · split
    · simp only [List.length_take]; omega
    · simp
theorem rdC_size (b : ByteArray) : ∀ i, (rdC b i).b.size ≤ b.size := by
  have h0 : (rdC b 0).b.size ≤ b.size := by
    show (bs (openB b.data.toList).1).size ≤ _
    rw [bs_size]
    have := openB_le b.data.toList
    rw [← Lib.size_eq] at this
    exact this
  intro i
  induction i with
  | zero => exact h0
  | succ n ih =>
    refine Nat.le_trans ?_ ih
    show (stepR n (rdC b n)).b.size ≤ _
    unfold stepR
    split <;> first | exact Rd.size_num _ _ | exact Rd.size_text _
theorem lkR_data (b : ByteArray) : (lkR b).data.size ≤ b.size := by
  show (rdC b 6).text.1.size ≤ _
  refine Nat.le_trans ?_ (rdC_size b 6)
  exact Nat.le_trans ((Rd.size_take _ _).2) (Rd.size_num _ _)
theorem readL_data (b : ByteArray) : (readL b).1.data.size ≤ b.size := by
  unfold readL
  split
  · exact Nat.zero_le _
  · exact lkR_data b
theorem readL_next (b : ByteArray) : 0 ≤ (readL b).1.next ∧ (readL b).1.next ≤ 9223372036854775807 := by
  unfold readL
  split
  · exact ⟨Int.le_refl _, by decide⟩
  · exact Rd.num_range _ _
set_option maxRecDepth 100000 in
set_option maxHeartbeats 8000000 in
theorem lkread_any (X : ByteArray) (w : World) (hs : X.size ≤ 100000) :
    Calls Tryz.prog 123 #[.string X] w fun e w' => e = .returned (.tuple #[(readL X).1.val, .bool (readL X).2]) ∧ Below w.heap.size w w' := by
  have HOP : Hid (∀ W, Calls Tryz.prog 120 #[.string X] W fun e w' => e = .returned (openV X.data.toList) ∧ Below W.heap.size W w') := Lib.hid (fun W => open_any X W (by omega))
  obtain ⟨BL, hBL⟩ : ∃ BL, BL = bs (openB X.data.toList).1 := ⟨_, rfl⟩
  obtain ⟨eo, heo⟩ : ∃ eo, eo = (openB X.data.toList).2 := ⟨_, rfl⟩
  have hov : openV X.data.toList = .tuple #[.string BL, .int .i64 eo] := by unfold openV; rw [← heo, hBL]; rfl
  rw [hov] at HOP
  by_cases he : eo = 0
  rotate_left
  · have hL : readL X = (LK.zero, false) := by unfold readL; rw [if_pos (by rw [← heo]; exact he)]
    rw [hL]
    have z0 : (eo == 0) = false := by simpa using he
    clear hL hov hBL heo he
    show Calls Tryz.prog 123 #[.string X] w fun e w' => e = .returned (.tuple #[.agg #[.int .i64 0, .int .i64 0, .int .i64 0, .int .i64 0, .int .i64 0, .string .empty, .int .i64 0], .bool false]) ∧ Below w.heap.size w w'
    go_enter Tryz.func123, Tryz.ntmps123
    go_wp2_with fail
    refine (HOP.out _).mono ?_
    rintro e w1 ⟨rfl, hb1⟩
    have HB0 : Hid (Below w.heap.size w w1) := Lib.hid (((Below.refl _ _).alloc (Nat.le_refl _) _).trans (hb1.mono (by simp)))
    have b1 : Blk w1 w.heap.size 118 #[.int .i64 0, .int .i64 0, .int .i64 0, .int .i64 0, .int .i64 0, .string ⟨#[]⟩, .int .i64 0] := (Blk.new w _ _).below hb1 (by simp)
    have c0 := b1.cell 0
    have c1 := b1.cell 1
    have c2 := b1.cell 2
    have c3 := b1.cell 3
    have c4 := b1.cell 4
    have c5 := b1.cell 5
    have c6 := b1.cell 6
    have f0 := b1.frozen 0
    have f1 := b1.frozen 1
    have f2 := b1.frozen 2
    have f3 := b1.frozen 3
    have f4 := b1.frozen 4
    have f5 := b1.frozen 5
    have f6 := b1.frozen 6
    simp at c0 c1 c2 c3 c4 c5 c6
    clear hb1
    go_wp2_with fail
    have b2 := ((((((b1.put 0 (.int .i64 0)).put 1 (.int .i64 0)).put 2 (.int .i64 0)).put 3 (.int .i64 0)).put 4 (.int .i64 0)).put 5 (.string ⟨#[]⟩)).put 6 (.int .i64 0)
    refine ret_cell2k rfl rfl (run_var_part (off := 0) b2 (fun j v h => by rw [Nat.zero_add]; exact h) (fun w => by kernel_rfl) (fun w => by kernel_rfl)) rfl rfl ?_
    exact ⟨rfl, ((((((HB0.out.setCell (Nat.le_refl _) _).setCell (Nat.le_refl _) _).setCell (Nat.le_refl _) _).setCell (Nat.le_refl _) _).setCell (Nat.le_refl _) _).setCell (Nat.le_refl _) _).setCell (Nat.le_refl _) _⟩
  subst he
  have hL : readL X = (lkR X, okR X) := by unfold readL; rw [if_neg (by rw [← heo]; simp)]
  rw [hL]
  have hsz := rdC_size X
  have R0 : rdC X 0 = ⟨BL, 0⟩ := by rw [hBL]; rfl
  have HON : Hid (∀ W, Calls Tryz.prog 150 #[.string BL] W fun e w' => ∃ g, e = .returned (.pointer (some ⟨g, 0, none⟩)) ∧ W.heap.size ≤ g ∧ InAt w' g (rdC X 0) ∧ Below W.heap.size W w') := Lib.hid (fun W => by
    rw [R0]
    exact on_any BL W (by have := hsz 0; rw [R0] at this; simp only at this; omega))
  obtain ⟨kind, hkind⟩ : ∃ z, z = ((rdC X 0).num 1).1 := ⟨_, rfl⟩
  obtain ⟨gen, hgen⟩ : ∃ z, z = ((rdC X 1).num 1).1 := ⟨_, rfl⟩
  obtain ⟨tag, htag⟩ : ∃ z, z = ((rdC X 2).num 1).1 := ⟨_, rfl⟩
  obtain ⟨num, hnum⟩ : ∃ z, z = ((rdC X 3).num 1).1 := ⟨_, rfl⟩
  obtain ⟨refs, hrefs⟩ : ∃ z, z = ((rdC X 4).num 2).1 := ⟨_, rfl⟩
  obtain ⟨next, hnext⟩ : ∃ z, z = ((rdC X 5).num 2).1 := ⟨_, rfl⟩
  obtain ⟨B, hB⟩ : ∃ z, z = (rdC X 6).text.1 := ⟨_, rfl⟩
  obtain ⟨fi, hfi⟩ : ∃ z, z = (rdC X 7).fin.1 := ⟨_, rfl⟩
  have H0 : Hid (∀ (W : World) (g : Nat), InAt W g (rdC X 0) → Calls Tryz.prog 152 #[.pointer (some ⟨g, 0, none⟩)] W fun e w' => e = .returned (.int .i64 kind) ∧ InAt w' g (rdC X 1) ∧ W.grownBy w' (some g)) := Lib.hid (fun W g hi => by rw [hkind]; exact in_byte g _ W hi (by have := hsz 0; omega))
  have H1 : Hid (∀ (W : World) (g : Nat), InAt W g (rdC X 1) → Calls Tryz.prog 152 #[.pointer (some ⟨g, 0, none⟩)] W fun e w' => e = .returned (.int .i64 gen) ∧ InAt w' g (rdC X 2) ∧ W.grownBy w' (some g)) := Lib.hid (fun W g hi => by rw [hgen]; exact in_byte g _ W hi (by have := hsz 1; omega))
  have H2 : Hid (∀ (W : World) (g : Nat), InAt W g (rdC X 2) → Calls Tryz.prog 152 #[.pointer (some ⟨g, 0, none⟩)] W fun e w' => e = .returned (.int .i64 tag) ∧ InAt w' g (rdC X 3) ∧ W.grownBy w' (some g)) := Lib.hid (fun W g hi => by rw [htag]; exact in_byte g _ W hi (by have := hsz 2; omega))
  have H3 : Hid (∀ (W : World) (g : Nat), InAt W g (rdC X 3) → Calls Tryz.prog 152 #[.pointer (some ⟨g, 0, none⟩)] W fun e w' => e = .returned (.int .i64 num) ∧ InAt w' g (rdC X 4) ∧ W.grownBy w' (some g)) := Lib.hid (fun W g hi => by rw [hnum]; exact in_byte g _ W hi (by have := hsz 3; omega))
  have H4 : Hid (∀ (W : World) (g : Nat), InAt W g (rdC X 4) → Calls Tryz.prog 153 #[.pointer (some ⟨g, 0, none⟩)] W fun e w' => e = .returned (.int .i64 refs) ∧ InAt w' g (rdC X 5) ∧ W.grownBy w' (some g)) := Lib.hid (fun W g hi => by rw [hrefs]; exact in_half g _ W hi (by have := hsz 4; omega))
  have H5 : Hid (∀ (W : World) (g : Nat), InAt W g (rdC X 5) → Calls Tryz.prog 153 #[.pointer (some ⟨g, 0, none⟩)] W fun e w' => e = .returned (.int .i64 next) ∧ InAt w' g (rdC X 6) ∧ W.grownBy w' (some g)) := Lib.hid (fun W g hi => by rw [hnext]; exact in_half g _ W hi (by have := hsz 5; omega))
  have H6 : Hid (∀ (W : World) (g : Nat), InAt W g (rdC X 6) → Calls Tryz.prog 156 #[.pointer (some ⟨g, 0, none⟩)] W fun e w' => e = .returned (.string B) ∧ InAt w' g (rdC X 7) ∧ W.grownBy w' (some g)) := Lib.hid (fun W g hi => by rw [hB]; exact in_text g _ W hi (by have := hsz 6; omega))
  have H7 : Hid (∀ (W : World) (g : Nat), InAt W g (rdC X 7) → Calls Tryz.prog 157 #[.pointer (some ⟨g, 0, none⟩)] W fun e w' => e = .returned (.int .i64 fi) ∧ W.grownBy w' (some g)) := Lib.hid (fun W g hi => by rw [hfi]; exact (in_end g _ W hi).mono (fun e w' h => ⟨h.1, h.2.2⟩))
  obtain ⟨sz, hsz'⟩ : ∃ sz, sz = B.size := ⟨_, rfl⟩
  have hsB : (B.size : Int) = (sz : Int) := by rw [hsz']
  have hszI : (sz : Int) ≤ 100000 := by have h1 := lkR_data X; have h2 : (lkR X).data = B := hB.symm; rw [h2] at h1; omega
  obtain ⟨r, hr⟩ : ∃ r, r = okR X := ⟨_, rfl⟩
  have HR : Hid (r = (decide (fi = 0) && decide (kind = 2) && fitsC gen tag && decide (refs ≤ 60000) && decide (sz ≤ 236))) := Lib.hid (by
    rw [hr, hfi, hkind, hgen, htag, hrefs, hsz', hB]
    rfl)
  have hV : (lkR X).val = .agg #[.int .i64 gen, .int .i64 tag, .int .i64 num, .int .i64 refs, .int .i64 next, .string B, .int .i64 0] := by rw [hgen, htag, hnum, hrefs, hnext, hB]; rfl
  show Calls Tryz.prog 123 #[.string X] w fun e w' => e = .returned (.tuple #[(lkR X).val, .bool (okR X)]) ∧ Below w.heap.size w w'
  rw [hV, ← hr]
  have HFT := Lib.hid (lkfits_any gen tag)
  clear hL hov hBL heo hsz R0 hkind hgen htag hnum hrefs hnext hB hfi hsz' hr hV hs
  go_enter Tryz.func123, Tryz.ntmps123
  go_wp2_with fail
  refine (HOP.out _).mono ?_
  rintro e w1 ⟨rfl, hb1⟩
  have HB1 : Hid (Below w.heap.size w w1) := Lib.hid (((Below.refl _ _).alloc (Nat.le_refl _) _).trans (hb1.mono (by simp)))
  have HK1 : Hid (Blk w1 w.heap.size 118 #[.int .i64 0, .int .i64 0, .int .i64 0, .int .i64 0, .int .i64 0, .string ⟨#[]⟩, .int .i64 0]) := Lib.hid ((Blk.new w _ _).below hb1 (by simp))
  have HS1 : Hid (w.heap.size < w1.heap.size) := Lib.hid HK1.out.lt
  clear hb1
  go_wp2_with fail
  refine (HON.out _).mono ?_
  rintro e v0 ⟨g, rfl, hgl, hi0, hb0⟩
  have HI0 := Lib.hid hi0
  have HG : Hid (w.heap.size < g) := Lib.hid (Nat.lt_of_lt_of_le HS1.out hgl)
  have HB0 : Hid (Below w.heap.size w v0) := Lib.hid (HB1.out.trans (hb0.mono HB1.out.size))
  have HK0 := Lib.hid (HK1.out.below hb0 HK1.out.lt)
  clear hgl hi0 hb0 HB1 HK1 HS1 HOP HON
  go_wp2_with fail
  refine (H0.out _ _ HI0.out).mono ?_
  rintro e v1 ⟨rfl, hi1, hg1⟩
  have HI1 := Lib.hid hi1
  have HB1 : Hid (Below w.heap.size w v1) := Lib.hid (below_by_new HB0.out hg1 (Nat.le_of_lt HG.out))
  have HK1 := Lib.hid (HK0.out.grown hg1 (by intro e; injection e with e; have := HG.out; omega))
  clear hi1 hg1 HI0 HB0 HK0 H0
  go_wp2_with fail
  refine (H1.out _ _ HI1.out).mono ?_
  rintro e v2 ⟨rfl, hi2, hg2⟩
  have HI2 := Lib.hid hi2
  have HB2 : Hid (Below w.heap.size w v2) := Lib.hid (below_by_new HB1.out hg2 (Nat.le_of_lt HG.out))
  have HK2 := Lib.hid (HK1.out.grown hg2 (by intro e; injection e with e; have := HG.out; omega))
  clear hi2 hg2 HI1 HB1 HK1 H1
  go_wp2_with fail
  refine (H2.out _ _ HI2.out).mono ?_
  rintro e v3 ⟨rfl, hi3, hg3⟩
  have HI3 := Lib.hid hi3
  have HB3 : Hid (Below w.heap.size w v3) := Lib.hid (below_by_new HB2.out hg3 (Nat.le_of_lt HG.out))
  have HK3 := Lib.hid (HK2.out.grown hg3 (by intro e; injection e with e; have := HG.out; omega))
  clear hi3 hg3 HI2 HB2 HK2 H2
  go_wp2_with fail
  refine (H3.out _ _ HI3.out).mono ?_
  rintro e v4 ⟨rfl, hi4, hg4⟩
  have HI4 := Lib.hid hi4
  have HB4 : Hid (Below w.heap.size w v4) := Lib.hid (below_by_new HB3.out hg4 (Nat.le_of_lt HG.out))
  have HK4 := Lib.hid (HK3.out.grown hg4 (by intro e; injection e with e; have := HG.out; omega))
  clear hi4 hg4 HI3 HB3 HK3 H3
  go_wp2_with fail
  refine (H4.out _ _ HI4.out).mono ?_
  rintro e v5 ⟨rfl, hi5, hg5⟩
  have HI5 := Lib.hid hi5
  have HB5 : Hid (Below w.heap.size w v5) := Lib.hid (below_by_new HB4.out hg5 (Nat.le_of_lt HG.out))
  have HK5 := Lib.hid (HK4.out.grown hg5 (by intro e; injection e with e; have := HG.out; omega))
  clear hi5 hg5 HI4 HB4 HK4 H4
  go_wp2_with fail
  refine (H5.out _ _ HI5.out).mono ?_
  rintro e v6 ⟨rfl, hi6, hg6⟩
  have HI6 := Lib.hid hi6
  have HB6 : Hid (Below w.heap.size w v6) := Lib.hid (below_by_new HB5.out hg6 (Nat.le_of_lt HG.out))
  have HK6 := Lib.hid (HK5.out.grown hg6 (by intro e; injection e with e; have := HG.out; omega))
  clear hi6 hg6 HI5 HB5 HK5 H5
  go_wp2_with fail
  refine (H6.out _ _ HI6.out).mono ?_
  rintro e v7 ⟨rfl, hi7, hg7⟩
  have HI7 := Lib.hid hi7
  have HB7 : Hid (Below w.heap.size w v7) := Lib.hid (below_by_new HB6.out hg7 (Nat.le_of_lt HG.out))
  have HK7 := Lib.hid (HK6.out.grown hg7 (by intro e; injection e with e; have := HG.out; omega))
  clear hi7 hg7 HI6 HB6 HK6 H6
  obtain ⟨g8, hg8⟩ : ∃ g8, g8 = v7.heap.size := ⟨_, rfl⟩
  have HGL : Hid (g < v7.heap.size) := Lib.hid HI7.out.lt
  have HI8 : Hid (InAt (v7.alloc (.cells #[.int .i64 gen, .int .i64 tag, .int .i64 num, .int .i64 refs, .int .i64 next, .string B, .int .i64 0] 118)) g (rdC X 7)) := Lib.hid (HI7.out.below ((Below.refl _ _).alloc (Nat.le_refl _) _) HI7.out.lt)
  have HB8 : Hid (Below w.heap.size w (v7.alloc (.cells #[.int .i64 gen, .int .i64 tag, .int .i64 num, .int .i64 refs, .int .i64 next, .string B, .int .i64 0] 118))) := Lib.hid (HB7.out.alloc HB7.out.size _)
  have HK8 : Hid (Blk (v7.alloc (.cells #[.int .i64 gen, .int .i64 tag, .int .i64 num, .int .i64 refs, .int .i64 next, .string B, .int .i64 0] 118)) w.heap.size 118 #[.int .i64 0, .int .i64 0, .int .i64 0, .int .i64 0, .int .i64 0, .string ⟨#[]⟩, .int .i64 0]) := Lib.hid (HK7.out.below ((Below.refl _ _).alloc (Nat.le_refl _) _) HK7.out.lt)
  have HL8 : Hid (Blk (v7.alloc (.cells #[.int .i64 gen, .int .i64 tag, .int .i64 num, .int .i64 refs, .int .i64 next, .string B, .int .i64 0] 118)) v7.heap.size 118 #[.int .i64 gen, .int .i64 tag, .int .i64 num, .int .i64 refs, .int .i64 next, .string B, .int .i64 0]) := Lib.hid (Blk.new _ _ _)
  have HGE := Lib.hid hg8
  clear hg8 HI7 HB7 HK7
  go_wp2_with fail
  refine (H7.out _ _ HI8.out).mono ?_
  rintro e w9 ⟨rfl, hg9⟩
  have HB9 : Hid (Below w.heap.size w w9) := Lib.hid (below_by_new HB8.out hg9 (Nat.le_of_lt HG.out))
  have HK9 := Lib.hid (HK8.out.grown hg9 (by intro e; injection e with e; have := HG.out; omega))
  have HL9 : Hid (Blk w9 g8 118 #[.int .i64 gen, .int .i64 tag, .int .i64 num, .int .i64 refs, .int .i64 next, .string B, .int .i64 0]) := Lib.hid (by rw [HGE.out]; exact HL8.out.grown hg9 (by intro e; injection e with e; have := HGL.out; omega))
  rw [← HGE.out]
  clear hg9 HI8 HB8 HK8 HL8 H7 HG HGL HGE
  have c0 := HL9.out.cell 0
  have c1 := HL9.out.cell 1
  have c2 := HL9.out.cell 2
  have c3 := HL9.out.cell 3
  have c4 := HL9.out.cell 4
  have c5 := HL9.out.cell 5
  have c6 := HL9.out.cell 6
  simp at c0 c1 c2 c3 c4 c5 c6
  have d0 := HK9.out.cell 0
  have d1 := HK9.out.cell 1
  have d2 := HK9.out.cell 2
  have d3 := HK9.out.cell 3
  have d4 := HK9.out.cell 4
  have d5 := HK9.out.cell 5
  have d6 := HK9.out.cell 6
  simp at d0 d1 d2 d3 d4 d5 d6
  have f0 := HK9.out.frozen 0
  have f1 := HK9.out.frozen 1
  have f2 := HK9.out.frozen 2
  have f3 := HK9.out.frozen 3
  have f4 := HK9.out.frozen 4
  have f5 := HK9.out.frozen 5
  have f6 := HK9.out.frozen 6
  by_cases a0 : fi = 0
  rotate_left
  · obtain rfl : r = false := by rw [HR.out, decide_eq_false a0]; rfl
    have z0 : (fi == 0) = false := by simpa using a0
    clear a0
    go_wp2_with fail
    have b2 := ((((((HK9.out.put 0 (.int .i64 gen)).put 1 (.int .i64 tag)).put 2 (.int .i64 num)).put 3 (.int .i64 refs)).put 4 (.int .i64 next)).put 5 (.string B)).put 6 (.int .i64 0)
    refine ret_cell2k rfl rfl (run_var_part (off := 0) b2 (fun j v h => by rw [Nat.zero_add]; exact h) (fun w => by kernel_rfl) (fun w => by kernel_rfl)) rfl rfl ?_
    exact ⟨rfl, ((((((HB9.out.setCell (Nat.le_refl _) _).setCell (Nat.le_refl _) _).setCell (Nat.le_refl _) _).setCell (Nat.le_refl _) _).setCell (Nat.le_refl _) _).setCell (Nat.le_refl _) _).setCell (Nat.le_refl _) _⟩
  subst a0
  by_cases a1 : kind = 2
  rotate_left
  · obtain rfl : r = false := by rw [HR.out, decide_eq_false a1]; rfl
    have z1 : (kind == 2) = false := by simpa using a1
    clear a1
    go_wp2_with fail
    have b2 := ((((((HK9.out.put 0 (.int .i64 gen)).put 1 (.int .i64 tag)).put 2 (.int .i64 num)).put 3 (.int .i64 refs)).put 4 (.int .i64 next)).put 5 (.string B)).put 6 (.int .i64 0)
    refine ret_cell2k rfl rfl (run_var_part (off := 0) b2 (fun j v h => by rw [Nat.zero_add]; exact h) (fun w => by kernel_rfl) (fun w => by kernel_rfl)) rfl rfl ?_
    exact ⟨rfl, ((((((HB9.out.setCell (Nat.le_refl _) _).setCell (Nat.le_refl _) _).setCell (Nat.le_refl _) _).setCell (Nat.le_refl _) _).setCell (Nat.le_refl _) _).setCell (Nat.le_refl _) _).setCell (Nat.le_refl _) _⟩
  subst a1
  obtain ⟨ft, hft⟩ : ∃ ft, ft = fitsC gen tag := ⟨_, rfl⟩
  rw [← hft] at HR HFT
  have HFF := Lib.hid hft
  clear hft
  cases ft with
  | false =>
    obtain rfl : r = false := by rw [HR.out]; rfl
    go_wp2_with (go_at_call 76; refine (HFT.out _).mono ?_; rintro e w10 ⟨rfl, rfl⟩)
    have b2 := ((((((HK9.out.put 0 (.int .i64 gen)).put 1 (.int .i64 tag)).put 2 (.int .i64 num)).put 3 (.int .i64 refs)).put 4 (.int .i64 next)).put 5 (.string B)).put 6 (.int .i64 0)
    refine ret_cell2k rfl rfl (run_var_part (off := 0) b2 (fun j v h => by rw [Nat.zero_add]; exact h) (fun w => by kernel_rfl) (fun w => by kernel_rfl)) rfl rfl ?_
    exact ⟨rfl, ((((((HB9.out.setCell (Nat.le_refl _) _).setCell (Nat.le_refl _) _).setCell (Nat.le_refl _) _).setCell (Nat.le_refl _) _).setCell (Nat.le_refl _) _).setCell (Nat.le_refl _) _).setCell (Nat.le_refl _) _⟩
  | true =>
  by_cases a2 : refs ≤ 60000
  rotate_left
  · obtain rfl : r = false := by rw [HR.out, decide_eq_false a2]; rfl
    have z2 : 60000 < refs := by omega
    clear a2
    go_wp2_with (go_at_call 76; refine (HFT.out _).mono ?_; rintro e w10 ⟨rfl, rfl⟩)
    have b2 := ((((((HK9.out.put 0 (.int .i64 gen)).put 1 (.int .i64 tag)).put 2 (.int .i64 num)).put 3 (.int .i64 refs)).put 4 (.int .i64 next)).put 5 (.string B)).put 6 (.int .i64 0)
    refine ret_cell2k rfl rfl (run_var_part (off := 0) b2 (fun j v h => by rw [Nat.zero_add]; exact h) (fun w => by kernel_rfl) (fun w => by kernel_rfl)) rfl rfl ?_
    exact ⟨rfl, ((((((HB9.out.setCell (Nat.le_refl _) _).setCell (Nat.le_refl _) _).setCell (Nat.le_refl _) _).setCell (Nat.le_refl _) _).setCell (Nat.le_refl _) _).setCell (Nat.le_refl _) _).setCell (Nat.le_refl _) _⟩
  have z2 : ¬ 60000 < refs := by omega
  by_cases a3 : sz ≤ 236
  rotate_left
  · obtain rfl : r = false := by rw [HR.out, decide_eq_false a3, decide_eq_true a2]; rfl
    have z3 : 236 < (sz : Int) := by omega
    clear a3
    go_wp2_with (go_at_call 76; refine (HFT.out _).mono ?_; rintro e w10 ⟨rfl, rfl⟩)
    have b2 := ((((((HK9.out.put 0 (.int .i64 gen)).put 1 (.int .i64 tag)).put 2 (.int .i64 num)).put 3 (.int .i64 refs)).put 4 (.int .i64 next)).put 5 (.string B)).put 6 (.int .i64 0)
    refine ret_cell2k rfl rfl (run_var_part (off := 0) b2 (fun j v h => by rw [Nat.zero_add]; exact h) (fun w => by kernel_rfl) (fun w => by kernel_rfl)) rfl rfl ?_
    exact ⟨by rw [decide_eq_false (show ¬ (sz : Int) ≤ 236 by omega)]; rfl, ((((((HB9.out.setCell (Nat.le_refl _) _).setCell (Nat.le_refl _) _).setCell (Nat.le_refl _) _).setCell (Nat.le_refl _) _).setCell (Nat.le_refl _) _).setCell (Nat.le_refl _) _).setCell (Nat.le_refl _) _⟩
  obtain rfl : r = true := by rw [HR.out, decide_eq_true a3, decide_eq_true a2]; rfl
  have z3 : ¬ 236 < (sz : Int) := by omega
  have z4 : (sz : Int) ≤ 236 := by omega
  go_wp2_with (go_at_call 76; refine (HFT.out _).mono ?_; rintro e w10 ⟨rfl, rfl⟩)
  have b2 := ((((((HK9.out.put 0 (.int .i64 gen)).put 1 (.int .i64 tag)).put 2 (.int .i64 num)).put 3 (.int .i64 refs)).put 4 (.int .i64 next)).put 5 (.string B)).put 6 (.int .i64 0)
  refine ret_cell2k rfl rfl (run_var_part (off := 0) b2 (fun j v h => by rw [Nat.zero_add]; exact h) (fun w => by kernel_rfl) (fun w => by kernel_rfl)) rfl rfl ?_
  exact ⟨rfl, ((((((HB9.out.setCell (Nat.le_refl _) _).setCell (Nat.le_refl _) _).setCell (Nat.le_refl _) _).setCell (Nat.le_refl _) _).setCell (Nat.le_refl _) _).setCell (Nat.le_refl _) _).setCell (Nat.le_refl _) _⟩
end Go.Proofs.YtnamokngiebicaaGreatDoor
