/-
  A region that draws its order, walked once in its text's order though its calls make new memory: each operation of known value in every world that has property J, each call leading from one such world to another. No statement is proved here.
-/
import Derived.Test.YtiagofgcinlnhaaGreatDoorHeadRead
import Derived.Still
import Derived.Tactics
import Derived.KernelRfl
namespace Go.Proofs.YtiagofgcinlnhaaGreatDoor
open Go.RowKit
theorem trim_none {l : List UInt8} : (Lib.trimB l 0).isEmpty = l.all (· == 0) := by
  cases h : l.all (· == 0) with
  | true =>
    unfold Lib.trimB Lib.trimLeftB Lib.trimRightB
    have h1 : l.reverse.dropWhile (· == 0) = [] := by
      have hh : ∀ r : List UInt8, r.all (· == 0) = true → r.dropWhile (· == 0) = [] := fun r => by
        induction r with
        | nil => intro _; rfl
        | cons x r ih =>
          intro h
          rw [List.all_cons, Bool.and_eq_true] at h
          rw [List.dropWhile_cons, if_pos h.1]
          exact ih h.2
      exact hh _ (by rw [List.all_reverse]; exact h)
    rw [h1]
    rfl
  | false =>
    obtain ⟨x, hx, hp⟩ : ∃ x ∈ l, (x == (0 : UInt8)) = false := by
      have h := h
      rw [List.all_eq_false] at h
      obtain ⟨x, hx, hp⟩ := h
      exact ⟨x, hx, by simpa using hp⟩
    unfold Lib.trimB Lib.trimLeftB Lib.trimRightB
    have h1 : x ∈ (l.reverse.dropWhile (· == 0)).reverse := by
      rw [List.mem_reverse]
      exact dropWhile_keeps _ x (by rw [List.mem_reverse]; exact hx) hp
    have h2 := dropWhile_keeps (· == 0) x h1 hp
    cases h : ((l.reverse.dropWhile (· == 0)).reverse.dropWhile (· == 0)) with
    | nil => rw [h] at h2; cases h2
    | cons _ _ => rfl
theorem row_ints {w : World} {base : Nat} {A : Option Addr} {c : Nat} {l : List Int} (h : w.ownsRow base 3 1 (.slice A l.length c) l.length (l.map (Value.int .i64))) : Ints w w.heap.size A l := fun hp => by
  obtain ⟨gv, cap, e, _, hlt2⟩ := h.form hp
  injection e with e1 _ e3
  subst e1 e3
  refine ⟨gv, 0, rfl, hlt2, fun i x hx => ?_⟩
  have hc := h.cells (g := gv) rfl i (.int .i64 x) (by rw [List.getElem?_map, hx]; rfl)
  rwa [add_off] at hc
def HD.zero : HD := ⟨0, false, []⟩
def readHD (b : List UInt8) : HD × Int :=
  if b.length ≠ 256 then (HD.zero, 5)
  else if b.all (· == 0) then (HD.zero, 0)
  else if (openB b).2 ≠ 0 then (HD.zero, (openB b).2)
  else if (parseHD (bs (openB b).1)).validB = true ∧ (parseHD (bs (openB b).1)).text = b then (parseHD (bs (openB b).1), 0) else (HD.zero, 6)
set_option maxRecDepth 100000 in
set_option maxHeartbeats 4000000 in
theorem hread_own (X : ByteArray) (w : World) :
    Calls Tryz.prog 101 #[.string X] w fun e w' => ∃ A c, e = .returned (.tuple #[(readHD X.data.toList).1.val A c, .int .i64 (readHD X.data.toList).2]) ∧ w'.ownsRow w.heap.size 3 1 (.slice A (readHD X.data.toList).1.ts.length c) (readHD X.data.toList).1.ts.length ((readHD X.data.toList).1.ts.map (Value.int .i64)) ∧ (readHD X.data.toList).1.ts.length ≤ 110 ∧ Below w.heap.size w w' := by
  have hlen : X.data.toList.length = X.size := (Lib.size_eq X).symm
  obtain ⟨Q, hQ⟩ : ∃ Q, Q = readHD X.data.toList := ⟨_, rfl⟩
  rw [← hQ]
  have R0 : Blk (w.alloc (.cells #[.int .i64 0, .bool false, .slice none 0 0] 99)) w.heap.size 99 #[.int .i64 0, .bool false, .slice none 0 0] := Blk.new w _ _
  have B0 : Below w.heap.size w (w.alloc (.cells #[.int .i64 0, .bool false, .slice none 0 0] 99)) := (Below.refl _ _).alloc (Nat.le_refl _) _
  by_cases h1 : X.size = 256
  · have hXI : (X.size : Int) = 256 := by omega
    obtain ⟨Z, hZ⟩ : ∃ Z : ByteArray, Z = ⟨(Lib.trimB X.data.toList 0).toArray⟩ := ⟨_, rfl⟩
    have hZe : Z.toList.isEmpty = X.data.toList.all (· == 0) := by
      rw [hZ, Lib.toList_data]
      exact trim_none
    have HTRIM : Hid (∀ W, Calls Tryz.prog 129 #[.string X, .string ⟨#[0]⟩] W fun e w' => e = .returned (.string Z) ∧ Below W.heap.size W w') := Lib.hid (fun W => by
      refine (h_strings_Trim_one X 0 (by decide) W (by omega)).mono ?_
      rintro e w' ⟨rfl, hw | hw⟩
      · exact ⟨by rw [hZ], hw ▸ Below.refl _ _⟩
      · exact ⟨by rw [hZ], by rw [hw]; exact (Below.refl _ _).drew⟩)
    by_cases h2 : X.data.toList.all (· == 0) = true
    · have E : Q = (HD.zero, 0) := by rw [hQ]; unfold readHD; rw [if_neg (by omega), if_pos h2]
      subst E
      rw [h2] at hZe
      have HR0 := Lib.hid R0
      have HB0 := Lib.hid B0
      clear hQ hlen hZ h2 R0 B0
      go_enter Tryz.func101, Tryz.ntmps101
      go_wp2_with fail
      refine (HTRIM.out _).mono ?_
      rintro e w1 ⟨rfl, hb1⟩
      have HR1 := Lib.hid (HR0.out.below hb1 HR0.out.lt)
      have HB1 := Lib.hid (HB0.out.trans (hb1.mono HB0.out.size))
      clear hb1
      have r0 := HR1.out.cell 0
      have r1 := HR1.out.cell 1
      have r2 := HR1.out.cell 2
      have f0 := HR1.out.frozen 0
      have f1 := HR1.out.frozen 1
      have f2 := HR1.out.frozen 2
      simp at r0 r1 r2
      go_wp2_with fail
      have b3 := ((HR1.out.put 0 (.int .i64 0)).put 1 (.bool false)).put 2 (.slice none 0 0)
      refine hret_cell2 rfl rfl (head_var b3) rfl rfl ?_
      exact ⟨none, 0, rfl, World.ownsRow_nil _ _ _ _, by decide, ((HB1.out.setCell (Nat.le_refl _) _).setCell (Nat.le_refl _) _).setCell (Nat.le_refl _) _⟩
    · have h2' : X.data.toList.all (· == 0) = false := by simpa using h2
      rw [h2'] at hZe
      obtain ⟨O, hO⟩ : ∃ O, O = openB X.data.toList := ⟨_, rfl⟩
      obtain ⟨Y, hY⟩ : ∃ Y : ByteArray, Y = ⟨O.1.toArray⟩ := ⟨_, rfl⟩
      have HOPEN : Hid (∀ W, Calls Tryz.prog 104 #[.string X] W fun e w' => e = .returned (.tuple #[.string Y, .int .i64 O.2]) ∧ Below W.heap.size W w') := Lib.hid (fun W => by
        have h1 := open_any X W (by omega)
        have e : openV X.data.toList = .tuple #[.string Y, .int .i64 O.2] := by unfold openV; rw [← hO, hY]
        rwa [e] at h1)
      by_cases h3 : O.2 = 0
      · obtain ⟨h, hh⟩ : ∃ h, h = parseHD (bs O.1) := ⟨_, rfl⟩
        have E : Q = if h.validB = true ∧ h.text = X.data.toList then (h, 0) else (HD.zero, 6) := by rw [hQ]; unfold readHD; rw [if_neg (by omega), if_neg h2, ← hO, if_neg (by omega), ← hh]
        have hYY : Y = bs O.1 := by rw [hY]; rfl
        have hYs : Y.size ≤ 1000000 := by
          rw [hYY, bs_size, hO]
          unfold openB
          split
          · simp
          · split
            · simp; omega
            · simp
        have HPARSE : Hid (∀ W, Calls Tryz.prog 130 #[.string Y] W fun e w' => ∃ A c, e = .returned (h.val A c) ∧ w'.ownsRow W.heap.size 3 1 (.slice A h.ts.length c) h.ts.length (h.ts.map (Value.int .i64)) ∧ h.ts.length ≤ 110 ∧ Below W.heap.size W w') := Lib.hid (fun W => by
          have := hparse_own Y hYs W
          rwa [show parseHD Y = h by rw [hh, hYY]] at this)
        obtain ⟨L, hL⟩ : ∃ L : ByteArray × Int, L = if h.validB then (bs h.text, 0) else (⟨#[]⟩, 1) := ⟨_, rfl⟩
        have hlay : ∀ (A : Option Addr) (c : Nat) (W : World), h.At W A c → Calls Tryz.prog 121 #[h.val A c] W fun e w' => e = .returned (.tuple #[.string L.1, .int .i64 L.2]) ∧ Below W.heap.size W w' := fun A c W ha => by
          have := hlay_any h A c W ha
          have e : (if h.validB then Value.tuple #[.string (bs h.text), .int .i64 0] else .tuple #[.string ⟨#[]⟩, .int .i64 1]) = .tuple #[.string L.1, .int .i64 L.2] := by rw [hL]; split <;> rfl
          rwa [e] at this
        have hcmp : ∀ ok : Bool, ok = decide (h.validB = true ∧ h.text = X.data.toList) → (L.1.toList == X.toList) = ok := fun ok hk => by
          rw [hk, hL]
          cases hv : h.validB with
          | true =>
            simp only [if_true, Lib.toList_data, bs_list, true_and]
            rw [Bool.eq_iff_iff]
            simp
          | false =>
            simp only [Bool.false_eq_true, if_false, false_and, decide_false, Lib.toList_data]
            refine beq_eq_false_iff_ne.2 (fun e => ?_)
            have := congrArg List.length e
            simp at this
            omega
        have HLAY := Lib.hid hlay
        by_cases h4 : h.validB = true ∧ h.text = X.data.toList
        · rw [if_pos h4] at E
          subst E
          have hc := hcmp true (decide_eq_true h4).symm
          simp only
          obtain ⟨seq, full, ts⟩ := h
          obtain ⟨n, hn⟩ : ∃ n, n = ts.length := ⟨_, rfl⟩
          unfold HD.val at HPARSE HLAY ⊢
          simp only at HPARSE HLAY ⊢
          rw [← hn] at HPARSE HLAY ⊢
          have HN := Lib.hid hn
          have HR0 := Lib.hid R0
          have HB0 := Lib.hid B0
          clear hQ hlen hZ h2 R0 B0 h2' hO hY hYY hYs hh hL hlay hcmp h4 hn
          go_enter Tryz.func101, Tryz.ntmps101
          go_wp2_with fail
          refine (HTRIM.out _).mono ?_
          rintro e w1 ⟨rfl, hb1⟩
          have HR1 := Lib.hid (HR0.out.below hb1 HR0.out.lt)
          have HB1 := Lib.hid (HB0.out.trans (hb1.mono HB0.out.size))
          clear hb1
          go_wp2_with fail
          refine (HOPEN.out _).mono ?_
          rintro e w2 ⟨rfl, hb2⟩
          have HR2 := Lib.hid (HR1.out.below hb2 HR1.out.lt)
          have HB2 := Lib.hid (HB1.out.trans (hb2.mono HB1.out.size))
          clear hb2 hZe
          go_wp2_with fail
          refine (HPARSE.out _).mono ?_
          rintro e w3 ⟨A, c, rfl, hrw, hfew, hb3⟩
          have hr3 := HR2.out.below hb3 HR2.out.lt
          have HR3 := Lib.hid hr3
          have HB3 := Lib.hid (HB2.out.trans (hb3.mono HB2.out.size))
          have HLT : Hid (w.heap.size < w2.heap.size) := Lib.hid HR2.out.lt
          have HBW : Hid (w.heap.size ≤ w2.heap.size) := Lib.hid HB2.out.size
          have hat : (HD.mk seq full ts).At w3 A c := by
            have hh : w3.ownsRow w2.heap.size 3 1 (.slice A ts.length c) ts.length (ts.map (Value.int .i64)) := by rw [← HN.out]; exact hrw
            exact ⟨row_ints hh, by show ts.length ≤ _; rw [← HN.out]; omega⟩
          have HFEW := Lib.hid hfew
          have HAT := Lib.hid hat
          have HRW0 := Lib.hid hrw
          have HL := Lib.hid (fun W => HLAY.out A c W)
          clear hrw hfew hb3 hr3 hat HLAY HPARSE
          go_wp2_with fail
          have hal : (HD.mk seq full ts).At (w3.alloc (.cells #[.int .i64 seq, .bool full, .slice A n c] 99)) A c := HAT.out.below ((Below.refl _ _).alloc (Nat.le_refl _) _)
          refine (HL.out _ hal).mono ?_
          rintro e w4 ⟨rfl, hb4⟩
          have bh : Blk w4 w3.heap.size 99 #[.int .i64 seq, .bool full, .slice A n c] := (Blk.new w3 _ _).below hb4 (by simp)
          have br : Blk w4 w.heap.size 99 #[.int .i64 0, .bool false, .slice none 0 0] := HR3.out.below (((Below.refl _ _).alloc (Nat.le_refl _) _).trans (hb4.mono (by simp))) HR3.out.lt
          have HBR := Lib.hid br
          have HB4 : Hid (Below w.heap.size w w4) := Lib.hid ((HB3.out.alloc HB3.out.size _).trans (hb4.mono (by have := HB3.out.size; simp; omega)))
          have HRW : Hid (w4.ownsRow w2.heap.size 3 1 (.slice A n c) n (ts.map (Value.int .i64))) := Lib.hid (row_kept' HRW0.out (fun k e => by
            have hk := (HRW0.out.lt k e).2
            exact ((((Below.refl w3.heap.size w3).alloc (Nat.le_refl _) _).trans (hb4.mono (by simp))).block k hk)))
          have c0 := bh.cell 0
          have c1 := bh.cell 1
          have c2 := bh.cell 2
          have r0 := br.cell 0
          have r1 := br.cell 1
          have r2 := br.cell 2
          have f0 := br.frozen 0
          have f1 := br.frozen 1
          have f2 := br.frozen 2
          simp at c0 c1 c2 r0 r1 r2
          clear hb4 hal bh br
          go_wp2_with fail
          have b3 := ((HBR.out.put 0 (.int .i64 seq)).put 1 (.bool full)).put 2 (.slice A n c)
          refine hret_cell2 rfl rfl (head_var b3) rfl rfl ?_
          refine ⟨A, c, rfl, row_lower (row_kept' HRW.out (fun q e => ?_)) HBW.out, HFEW.out, ((HB4.out.setCell (Nat.le_refl _) _).setCell (Nat.le_refl _) _).setCell (Nat.le_refl _) _⟩
          have hne : q ≠ w.heap.size := fun e2 => by have := (HRW.out.lt q e).1; have := HLT.out; omega
          exact (Below.heap_setCell _ _ _ _ (fun e => hne e)).trans ((Below.heap_setCell _ _ _ _ (fun e => hne e)).trans (Below.heap_setCell _ _ _ _ (fun e => hne e)))
        · rw [if_neg h4] at E
          subst E
          have hc := hcmp false (decide_eq_false h4).symm
          simp only
          obtain ⟨seq, full, ts⟩ := h
          obtain ⟨n, hn⟩ : ∃ n, n = ts.length := ⟨_, rfl⟩
          unfold HD.val at HPARSE HLAY
          simp only at HPARSE HLAY
          rw [← hn] at HPARSE HLAY
          have HN := Lib.hid hn
          have HR0 := Lib.hid R0
          have HB0 := Lib.hid B0
          clear hQ hlen hZ h2 R0 B0 h2' hO hY hYY hYs hh hL hlay hcmp h4 hn
          go_enter Tryz.func101, Tryz.ntmps101
          go_wp2_with fail
          refine (HTRIM.out _).mono ?_
          rintro e w1 ⟨rfl, hb1⟩
          have HR1 := Lib.hid (HR0.out.below hb1 HR0.out.lt)
          have HB1 := Lib.hid (HB0.out.trans (hb1.mono HB0.out.size))
          clear hb1
          go_wp2_with fail
          refine (HOPEN.out _).mono ?_
          rintro e w2 ⟨rfl, hb2⟩
          have HR2 := Lib.hid (HR1.out.below hb2 HR1.out.lt)
          have HB2 := Lib.hid (HB1.out.trans (hb2.mono HB1.out.size))
          clear hb2 hZe
          go_wp2_with fail
          refine (HPARSE.out _).mono ?_
          rintro e w3 ⟨A, c, rfl, hrw, hfew, hb3⟩
          have hr3 := HR2.out.below hb3 HR2.out.lt
          have HR3 := Lib.hid hr3
          have HB3 := Lib.hid (HB2.out.trans (hb3.mono HB2.out.size))
          have HLT : Hid (w.heap.size < w2.heap.size) := Lib.hid HR2.out.lt
          have HBW : Hid (w.heap.size ≤ w2.heap.size) := Lib.hid HB2.out.size
          have hat : (HD.mk seq full ts).At w3 A c := by
            have hh : w3.ownsRow w2.heap.size 3 1 (.slice A ts.length c) ts.length (ts.map (Value.int .i64)) := by rw [← HN.out]; exact hrw
            exact ⟨row_ints hh, by show ts.length ≤ _; rw [← HN.out]; omega⟩
          have HFEW := Lib.hid hfew
          have HAT := Lib.hid hat
          have HRW0 := Lib.hid hrw
          have HL := Lib.hid (fun W => HLAY.out A c W)
          clear hrw hfew hb3 hr3 hat HLAY HPARSE
          go_wp2_with fail
          have hal : (HD.mk seq full ts).At (w3.alloc (.cells #[.int .i64 seq, .bool full, .slice A n c] 99)) A c := HAT.out.below ((Below.refl _ _).alloc (Nat.le_refl _) _)
          refine (HL.out _ hal).mono ?_
          rintro e w4 ⟨rfl, hb4⟩
          have bh : Blk w4 w3.heap.size 99 #[.int .i64 seq, .bool full, .slice A n c] := (Blk.new w3 _ _).below hb4 (by simp)
          have br : Blk w4 w.heap.size 99 #[.int .i64 0, .bool false, .slice none 0 0] := HR3.out.below (((Below.refl _ _).alloc (Nat.le_refl _) _).trans (hb4.mono (by simp))) HR3.out.lt
          have HBR := Lib.hid br
          have HB4 : Hid (Below w.heap.size w w4) := Lib.hid ((HB3.out.alloc HB3.out.size _).trans (hb4.mono (by have := HB3.out.size; simp; omega)))
          have HRW : Hid (w4.ownsRow w2.heap.size 3 1 (.slice A n c) n (ts.map (Value.int .i64))) := Lib.hid (row_kept' HRW0.out (fun k e => by
            have hk := (HRW0.out.lt k e).2
            exact ((((Below.refl w3.heap.size w3).alloc (Nat.le_refl _) _).trans (hb4.mono (by simp))).block k hk)))
          have c0 := bh.cell 0
          have c1 := bh.cell 1
          have c2 := bh.cell 2
          have r0 := br.cell 0
          have r1 := br.cell 1
          have r2 := br.cell 2
          have f0 := br.frozen 0
          have f1 := br.frozen 1
          have f2 := br.frozen 2
          simp at c0 c1 c2 r0 r1 r2
          clear hb4 hal bh br
          go_wp2_with fail
          have b3 := ((HBR.out.put 0 (.int .i64 0)).put 1 (.bool false)).put 2 (.slice none 0 0)
          refine hret_cell2 rfl rfl (head_var b3) rfl rfl ?_
          exact ⟨none, 0, rfl, World.ownsRow_nil _ _ _ _, by decide, ((HB4.out.setCell (Nat.le_refl _) _).setCell (Nat.le_refl _) _).setCell (Nat.le_refl _) _⟩
      · have E : Q = (HD.zero, O.2) := by rw [hQ]; unfold readHD; rw [if_neg (by omega), if_neg h2, ← hO, if_pos h3]
        subst E
        obtain ⟨x, hx⟩ : ∃ x, x = O.2 := ⟨_, rfl⟩
        rw [← hx] at HOPEN h3 ⊢
        have h3' : (x != 0) = true := by rw [bne_iff_ne]; exact h3
        have HR0 := Lib.hid R0
        have HB0 := Lib.hid B0
        clear hQ hlen hZ h2 R0 B0 h2' hO hY hx
        go_enter Tryz.func101, Tryz.ntmps101
        go_wp2_with fail
        refine (HTRIM.out _).mono ?_
        rintro e w1 ⟨rfl, hb1⟩
        have HR1 := Lib.hid (HR0.out.below hb1 HR0.out.lt)
        have HB1 := Lib.hid (HB0.out.trans (hb1.mono HB0.out.size))
        clear hb1
        go_wp2_with fail
        refine (HOPEN.out _).mono ?_
        rintro e w2 ⟨rfl, hb2⟩
        have HR2 := Lib.hid (HR1.out.below hb2 HR1.out.lt)
        have HB2 := Lib.hid (HB1.out.trans (hb2.mono HB1.out.size))
        clear hb2
        have r0 := HR2.out.cell 0
        have r1 := HR2.out.cell 1
        have r2 := HR2.out.cell 2
        have f0 := HR2.out.frozen 0
        have f1 := HR2.out.frozen 1
        have f2 := HR2.out.frozen 2
        simp at r0 r1 r2
        go_wp2_with fail
        have b3 := ((HR2.out.put 0 (.int .i64 0)).put 1 (.bool false)).put 2 (.slice none 0 0)
        refine hret_cell2 rfl rfl (head_var b3) rfl rfl ?_
        exact ⟨none, 0, rfl, World.ownsRow_nil _ _ _ _, by decide, ((HB2.out.setCell (Nat.le_refl _) _).setCell (Nat.le_refl _) _).setCell (Nat.le_refl _) _⟩
  · have h1' : ¬ (X.size : Int) = 256 := by omega
    have h1b : ((X.size : Int) != 256) = true := by rw [bne_iff_ne]; exact h1'
    have E : Q = (HD.zero, 5) := by rw [hQ]; unfold readHD; rw [if_pos (by omega)]
    subst E
    have HR0 := Lib.hid R0
    have HB0 := Lib.hid B0
    clear hQ hlen R0 B0
    have r0 := HR0.out.cell 0
    have r1 := HR0.out.cell 1
    have r2 := HR0.out.cell 2
    have f0 := HR0.out.frozen 0
    have f1 := HR0.out.frozen 1
    have f2 := HR0.out.frozen 2
    simp at r0 r1 r2
    go_enter Tryz.func101, Tryz.ntmps101
    go_wp2_with fail
    refine hret_cell2 rfl rfl (head_var HR0.out) rfl rfl ?_
    exact ⟨none, 0, rfl, World.ownsRow_nil _ _ _ _, by decide, HB0.out⟩
theorem kints_cells {w : World} {B b off : Nat} {xs : List Int} (hc : ∀ (j : Nat) (x : Int), xs[j]? = some x → w.cell? ⟨b, off + j, none⟩ = some (.int .i64 x)) (_hB : b < B) :
    ∀ (j : Nat) (u : Value), (xs.map (Value.int .i64))[j]? = some u → w.cell? ((⟨b, off, none⟩ : Addr).add j) = some u := by
  intro j u hu
  rw [List.getElem?_map] at hu
  obtain ⟨x, hx, rfl⟩ := Option.map_eq_some_iff.1 hu
  rw [Go.WideShapes.add_plain]
  exact hc j x hx
set_option maxRecDepth 100000 in
set_option maxHeartbeats 1000000 in
theorem kcopy_any (A : Option Addr) (m c : Nat) (xs : List Int) (w : World) (hm : xs.length = m) (hx : Ints w w.heap.size A xs) (hl : m ≤ 1000000) (h0 : A = none → c = 0) :
    Calls Tryz.prog 45 #[.slice A m c] w fun e w' => ∃ v, e = .returned v ∧ w'.ownsRow w.heap.size 3 1 v m (xs.map (Value.int .i64)) ∧ Below w.heap.size w w' := by
  obtain ⟨i0, hi, hz0, hz1, hz2⟩ := info_parts hints_info
  have HX := Lib.hid hx
  have HM := Lib.hid hm
  have H0 := Lib.hid h0
  clear hx hm h0
  rcases A with _ | ad
  · obtain rfl : c = 0 := H0.out rfl
    have hm0 : m = 0 := by
      rcases Nat.eq_zero_or_pos m with h | h
      · exact h
      · obtain ⟨b, off, e, _⟩ := HX.out (by rw [HM.out]; exact h)
        cases e
    subst hm0
    have hxs : xs = [] := List.eq_nil_of_length_eq_zero HM.out
    subst hxs
    go_enter Tryz.func45, Tryz.ntmps45
    go_wp2_with (at_builtin; refine wpList_append_own_none rfl _ _ 39 rfl w.heap.size 3 i0 1 Tryz.underlying39 hi (.slice none 0 0) 0 [] rfl (World.ownsRow_nil _ _ _ _) rfl ?_)
    go_ret
    exact ⟨_, rfl, World.ownsRow_nil _ _ _ _, Below.refl _ _⟩
  · have hnews : ∀ (j : Nat) (u : Value), (xs.map (Value.int .i64))[j]? = some u → w.cell? (ad.add j) = some u := by
      intro j u hu
      have hj : j < xs.length := by
        rcases Nat.lt_or_ge j xs.length with h | h
        · exact h
        · rw [List.getElem?_eq_none (by rw [List.length_map]; exact h)] at hu; cases hu
      obtain ⟨b, off, e, hB, hc⟩ := HX.out (by omega)
      injection e with e
      subst e
      exact kints_cells hc hB j u hu
    have hone : ∀ u ∈ xs.map (Value.int .i64), u.oneCell' = true := by
      intro u hu
      obtain ⟨x, _, rfl⟩ := List.mem_map.1 hu
      rfl
    have HN := Lib.hid hnews
    have HO := Lib.hid hone
    clear hnews hone
    go_enter Tryz.func45, Tryz.ntmps45
    go_wp2_with (at_builtin; refine wpList_append_own _ rfl _ _ 39 rfl w.heap.size 3 i0 (.int .i64 0) 1 8 Tryz.underlying39 hi hz0 hz1 hz2 rfl (by omega) (.slice none 0 0) 0 [] rfl (World.ownsRow_nil _ _ _ _) ad m c (xs.map (Value.int .i64)) rfl (by rw [List.length_map, HM.out]; omega) HN.out HO.out (by unfold maxLen; omega) (by omega) (Nat.le_refl _) ?_; intro v1 w1 hown1 hg1 _)
    have hb1 : Below w.heap.size w w1 := (Below.refl _ _).grown hg1 (Nat.le_refl _) (by simp [Value.ownBlock])
    clear hg1
    have HOW := Lib.hid hown1
    clear hown1
    go_wp2_with fail
    go_ret
    exact ⟨v1, rfl, by simpa using HOW.out, hb1⟩
def LentK (w : World) (B g cap : Nat) (xs : List Int) : Prop :=
  B ≤ g ∧ g < w.heap.size ∧ xs.length + 1 ≤ cap ∧ cap ≤ 9223372036854775807 ∧ ∀ (j : Nat) (x : Int), (xs ++ [(-77)])[j]? = some x → w.cell? ⟨g, j, none⟩ = some (.int .i64 x)
theorem LentK.below {w w' : World} {B g cap : Nat} {xs : List Int} (h : LentK w B g cap xs) (hb : Below w.heap.size w w') : LentK w' B g cap xs := by
  obtain ⟨h0, h1, h2, h3, h4⟩ := h
  exact ⟨h0, Nat.lt_of_lt_of_le h1 hb.size, h2, h3, fun j x hx => (hb.cell (p := ⟨g, j, none⟩) h1).trans (h4 j x hx)⟩
theorem LentK.ints {w : World} {B g cap : Nat} {xs : List Int} (h : LentK w B g cap xs) : Ints w w.heap.size (some ⟨g, 0, none⟩) xs := by
  obtain ⟨h0, h1, h2, h3, h4⟩ := h
  intro _
  refine ⟨g, 0, rfl, h1, fun j x hx => ?_⟩
  rw [Nat.zero_add]
  have hj : j < xs.length := by
    rcases Nat.lt_or_ge j xs.length with h | h
    · exact h
    · rw [List.getElem?_eq_none h] at hx; cases hx
  exact h4 j x (by rw [List.getElem?_append_left hj]; exact hx)
set_option maxRecDepth 100000 in
set_option maxHeartbeats 1000000 in
theorem klent_any (A : Option Addr) (m c : Nat) (xs : List Int) (w : World) (hm : xs.length = m) (hx : Ints w w.heap.size A xs) (hl : m ≤ 900000) (h0 : A = none → c = 0) :
    Calls Tryz.prog 16 #[.slice A m c] w fun e w' => ∃ g cap, e = .returned (.slice (some ⟨g, 0, none⟩) m cap) ∧ LentK w' w.heap.size g cap xs ∧ Below w.heap.size w w' := by
  obtain ⟨i0, hi, hz0, hz1, hz2⟩ := info_parts hints_info
  have HC := Lib.hid (kcopy_any A m c xs w hm hx (by omega) h0)
  have HM := Lib.hid hm
  clear hx hm h0
  go_enter Tryz.func16, Tryz.ntmps16
  go_wp2_with fail
  refine HC.out.mono ?_
  rintro e w1 ⟨v, rfl, hown, hb1⟩
  have HOWN := Lib.hid hown
  clear hown
  go_wp2_with (at_builtin; refine wpList_append_lies _ rfl (.tmp 4) (.tmp 5) 39 rfl w.heap.size 3 i0 (.int .i64 0) 1 8 Tryz.underlying39 hi hz0 hz1 hz2 rfl (by omega) _ m _ rfl (HOWN.out.alloc _) ⟨w1.heap.size, 0, none⟩ 1 1 [.int .i64 (-77)] rfl rfl ?c1 ?c2 (by omega) (by unfold maxLen; omega) (by omega) (by have := hb1.size; simp; omega) _ rfl ?_)
  case c1 =>
    intro a u ha
    match a, ha with
    | 0, ha => simp at ha; subst ha; simp [Addr.add]
  case c2 => intro u hu; simp at hu; subst hu; rfl
  intro g cap w2 hown2 hg2 hor hlt2
  have hb2 : Below w.heap.size w w2 := (hb1.alloc hb1.size _).grown hg2 (by have := hb1.size; simp; omega) (fun k hk => (HOWN.out.lt k hk).1)
  have hform : m + 1 ≤ cap ∧ cap ≤ 9223372036854775807 ∧ w.heap.size ≤ g := by
    rcases hown2.2 with ⟨h, _⟩ | ⟨g', cap', cur, h, hg', _, h1, h2, _⟩
    · cases h
    · injection h with e1 e2 e3
      injection e1 with e1
      injection e1 with e1
      subst e1 e3
      exact ⟨h1, h2, hg'⟩
  obtain ⟨hc1, hc2, hc3⟩ := hform
  have hlent : LentK w2 w.heap.size g cap xs := by
    refine ⟨hc3, hlt2, by rw [HM.out]; exact hc1, hc2, fun j x hx => ?_⟩
    have := hown2.cells (g := g) rfl j (.int .i64 x) (by
      rw [show xs.map (Value.int .i64) ++ [Value.int .i64 (-77)] = (xs ++ [(-77 : Int)]).map (Value.int .i64) by simp, List.getElem?_map, hx]
      rfl)
    rw [Go.WideShapes.add_plain, Nat.zero_add] at this
    exact this
  have HL := Lib.hid hlent
  clear hlent hown2 hg2 hor hb1
  go_wp2_with fail
  go_ret
  exact ⟨g, cap, rfl, HL.out, hb2⟩
set_option maxRecDepth 100000 in
set_option maxHeartbeats 1000000 in
theorem ksame_any (A B : Option Addr) (m c d : Nat) (xs : List Int) (w : World) (hm : xs.length = m) (hx : Ints w w.heap.size A xs) (hy : Ints w w.heap.size B xs) (hl : m ≤ 1000000) :
    Calls Tryz.prog 49 #[.slice A m c, .slice B m d] w fun e w' => e = .returned (.bool true) ∧ ∃ n, w' = w.drewN n := by
  have HX := Lib.hid hx
  have HY := Lib.hid hy
  have HM := Lib.hid hm
  clear hx hm hy
  go_enter Tryz.func49, Tryz.ntmps49
  go_wp2_with fail
  go_loopw [5] (fun i wr => ∃ (j n : Nat), j ≤ m ∧ i = .int .i64 j ∧ wr = w.drewN n) (fun i _ => m - (intOf i).toNat)
  case atStart => exact ⟨0, 0, Nat.zero_le _, rfl, rfl⟩
  case round =>
    obtain ⟨j, n, hj, rfl, rfl⟩ := hrel
    by_cases hlt : j < m
    · have hxl : j < xs.length := by rw [HM.out]; exact hlt
      obtain ⟨b, off, hA, hbB, hc⟩ := HX.out (by omega)
      obtain ⟨b', off', hA', hbB', hc'⟩ := HY.out (by omega)
      obtain ⟨x, hx⟩ : ∃ x, x = xs[j] := ⟨_, rfl⟩
      have hxj : xs[j]? = some x := by rw [hx]; exact List.getElem?_eq_getElem hxl
      have hcx : w.cell? ⟨b, off + j, none⟩ = some (.int .i64 x) := hc j x hxj
      have hcy : w.cell? ⟨b', off' + j, none⟩ = some (.int .i64 x) := hc' j x hxj
      clear hxj hc hx hc'
      subst hA
      subst hA'
      go_wp2_with fail
      go_quiet (fail)
      go_wp2_with fail
      go_roundw
      case rel => exact ⟨j + 1, _, by omega, by go_num, rfl⟩
      case measure => simp [intOf]; omega
    · obtain rfl : j = m := by omega
      go_wp2_with fail
      go_ret
      exact ⟨rfl, _, rfl⟩
set_option maxRecDepth 100000 in
set_option maxHeartbeats 1000000 in
theorem kstays_any (g cap : Nat) (A : Option Addr) (m d : Nat) (xs : List Int) (B0 : Nat) (w : World) (hm : xs.length = m) (hL : LentK w B0 g cap xs) (hx : Ints w w.heap.size A xs) (hl : m ≤ 1000000) :
    Calls Tryz.prog 18 #[.slice (some ⟨g, 0, none⟩) m cap, .slice A m d] w fun e w' => e = .returned (.bool true) ∧ ∃ n, w' = w.drewN n := by
  have HS := Lib.hid (ksame_any (some ⟨g, 0, none⟩) A m cap d xs w hm hL.ints hx hl)
  obtain ⟨h0, h1, h2, h3, h4⟩ := hL
  have hc : w.cell? ⟨g, m, none⟩ = some (.int .i64 (-77)) := h4 m _ (by rw [List.getElem?_append_right (by omega), hm, Nat.sub_self]; rfl)
  have h2' : m + 1 ≤ cap := by omega
  clear hx hm h0 h4 h2
  go_enter Tryz.func18, Tryz.ntmps18
  go_wp2_with fail
  refine HS.out.mono ?_
  rintro e w1 ⟨rfl, n, rfl⟩
  go_wp2_with fail
  go_ret
  exact ⟨rfl, n, rfl⟩
def markAt (i k : Nat) : Int := -1000000 * (i : Int) - (k : Int) - 7
def marksOf (i a n : Nat) : List Int := (List.range n).map fun j => markAt i (a + j)
theorem marksOf_length (i a n : Nat) : (marksOf i a n).length = n := by simp [marksOf]
theorem marksOf_snoc (i a n : Nat) : marksOf i a (n + 1) = marksOf i a n ++ [markAt i (a + n)] := by simp [marksOf, List.range_succ]
theorem marksOf_get {i a n j : Nat} (h : j < n) : (marksOf i a n)[j]? = some (markAt i (a + j)) := by
  unfold marksOf
  rw [List.getElem?_map, List.getElem?_range h]
  rfl
theorem marksOf_append (i a n m : Nat) : marksOf i a n ++ marksOf i (a + n) m = marksOf i a (n + m) := by
  apply List.ext_getElem?
  intro j
  rcases Nat.lt_or_ge j n with h | h
  · rw [List.getElem?_append_left (by rw [marksOf_length]; exact h), marksOf_get h, marksOf_get (by omega)]
  · rw [List.getElem?_append_right (by rw [marksOf_length]; exact h), marksOf_length]
    rcases Nat.lt_or_ge j (n + m) with h2 | h2
    · rw [marksOf_get (by omega), marksOf_get h2]
      congr 2
      omega
    · rw [List.getElem?_eq_none (by rw [marksOf_length]; omega), List.getElem?_eq_none (by rw [marksOf_length]; omega)]
open Go
section
variable {P : Program} {ops : Array Oper} {J : World → Prop}
def LeavesV (P : Program) (ops : Array Oper) (J : World → Prop) (o : Oper) (v : Value) (a : Act) : Prop :=
  (Region.wanted o (yielded ops a.tmps) = true ∧ ∀ w, J w → ((execOp a.eval o).run P w = .ok (.value v) w ∨ ((execOp a.eval o).run P w = .ok .skip w ∧ v = undef) ∨ ∃ f args, (execOp a.eval o).run P w = .ok (.enter f args) w ∧ Calls P f args w (fun e w' => e = .returned v ∧ J w'))) ∨
  (Region.wanted o (yielded ops a.tmps) = false ∧ v = undef)
theorem LeavesV.alike {o : Oper} {v : Value} {a b : Act} (h : LeavesV P ops J o v a) (he : execOp b.eval o = execOp a.eval o) (hw : Region.wanted o (yielded ops b.tmps) = Region.wanted o (yielded ops a.tmps)) : LeavesV P ops J o v b := by
  unfold LeavesV at *
  rw [he, hw]
  exact h
theorem LeavesV.wpOp {o : Oper} {v : Value} {a : Act} {i : Nat} {w : World} {K : Act → World → Prop} {Q : Exit → Act → World → Prop} (hi : ops[i]? = some o) (h : LeavesV P ops J o v a) (hJ : J w) (hK : ∀ w', J w' → K (a.put o.dst v) w') : wpOp P ops Q i K a w := by
  unfold Go.wpOp
  simp only [hi]
  rcases h with ⟨hw, h⟩ | ⟨hw, rfl⟩
  · rw [if_pos hw]
    refine .inl ?_
    unfold Oper.wp
    rcases h w hJ with hr | ⟨hr, rfl⟩ | ⟨f, args, hr, hc⟩
    · rw [hr]; exact hK w hJ
    · rw [hr]; exact hK w hJ
    · rw [hr]
      exact hc.mono fun e w' ⟨he, hj⟩ => by subst he; exact hK w' hj
  · rw [if_neg (by rw [hw]; decide)]
    exact hK w hJ
def wpGrow (P : Program) (ops : Array Oper) (J : World → Prop) (Q : Act → Prop) : List Oper → Act → Prop
  | [], a => Q a
  | o :: rest, a => ∃ v, LeavesV P ops J o v a ∧ wpGrow P ops J Q rest (a.put o.dst v)
def anyGrow (P : Program) (ops : Array Oper) (J : World → Prop) (Q : Act → Prop) : Nat → Array Bool → Act → Prop
  | 0, listed, a => Region.ready .any ops listed = [] ∧ Q a
  | n + 1, listed, a => (Region.ready .any ops listed = [] → Q a) ∧ ∀ i ∈ Region.ready .any ops listed, ∃ o v, ops[i]? = some o ∧ LeavesV P ops J o v a ∧ anyGrow P ops J Q n (listed.setIfInBounds i true) (a.put o.dst v)
theorem wpAny_anyGrow {Q : Act → Prop} {Q' : Exit → Act → World → Prop} (hQ : ∀ a w, J w → Q a → Q' .normal a w) : ∀ (n : Nat) (listed : Array Bool) (a : Act) (w : World), J w → anyGrow P ops J Q n listed a → wpAny P .any ops Q' n listed a w
  | 0, _, _, _, hJ, h => ⟨h.1, hQ _ _ hJ h.2⟩
  | n + 1, _, _, _, hJ, h => ⟨fun h0 => hQ _ _ hJ (h.1 h0), fun i hi => by
      obtain ⟨o, v, ho, hl, hn⟩ := h.2 i hi
      exact hl.wpOp ho hJ fun w' hJ' => wpAny_anyGrow hQ n _ _ _ hJ' hn⟩
theorem anyGrow_first {Q : Act → Prop} {i : Nat} {oi : Oper} {v : Value} (hi : ops[i]? = some oi) (hsel : ∀ (j : Nat) (o : Oper) cs b, ops[j]? = some o → o.op ≠ .select cs b) :
    ∀ (n : Nat) (listed : Array Bool) (a : Act),
      (∀ j oj, ops[j]? = some oj → j ≠ i → listed.getD j true = false → (∀ e ∈ oj.after, Region.binds .any e = true → e.on ≠ i) → oi.apart ops oj = true) →
      i ∈ Region.ready .any ops listed → LeavesV P ops J oi v a → anyGrow P ops J Q n (listed.setIfInBounds i true) (a.put oi.dst v) → anyGrow P ops J Q (n + 1) listed a := by
  intro n
  induction n with
  | zero =>
    intro listed a _ hr hy H
    refine ⟨fun h => (by rw [h] at hr; cases hr), fun j hj => ?_⟩
    by_cases hji : j = i
    · subst hji; exact ⟨oi, v, hi, hy, H⟩
    · have := ready_mono hj hji
      rw [H.1] at this
      cases this
  | succ n ih =>
    intro listed a hfree hr hy H
    refine ⟨fun h => (by rw [h] at hr; cases hr), fun j hj => ?_⟩
    by_cases hji : j = i
    · subst hji; exact ⟨oi, v, hi, hy, H⟩
    · obtain ⟨oj, u, hoj, hyj, hn⟩ := H.2 j (ready_mono hj hji)
      obtain ⟨hjun, oj', hoj', hall⟩ := mem_ready.1 hj
      obtain rfl : oj' = oj := Option.some.inj (hoj'.symm.trans hoj)
      have hnot : ∀ e ∈ oj'.after, Region.binds .any e = true → e.on ≠ i := fun e he hb heq => by
        have h1 := hall e he hb
        have h0 := (mem_ready.1 hr).1
        rw [heq] at h1
        rcases Nat.lt_or_ge i listed.size with h' | h'
        · simp [h'] at h0 h1; rw [h0] at h1; cases h1
        · simp [Array.getElem?_eq_none h'] at h1
      have hap := hfree j oj' hoj hji hjun hnot
      obtain ⟨p1, p2, p3⟩ := Oper.apart_spec hap
      have si := fun cs b => hsel i oi cs b hi
      have sj := fun cs b => hsel j oj' cs b hoj
      refine ⟨oj', u, hoj, hyj.alike (execOp_put oj' sj a oi.dst v p1).symm (wanted_put oj' a oi.dst v p1).symm, ih _ _ ?_ (ready_mono hr (Ne.symm hji)) (hy.alike (execOp_put oi si a oj'.dst u p3) (wanted_put oi a oj'.dst u p3)) ?_⟩
      · intro k ok hk hki hun hno
        refine hfree k ok hk hki ?_ hno
        by_cases hjk : j = k
        · subst hjk; exact hjun
        · rw [getD_set_ne true hjk] at hun; exact hun
      · rw [Array.setIfInBounds_comm _ _ hji, ← Act.put_comm a v u p2]
        exact hn
theorem anyGrow_lex {Q : Act → Prop} (hs : Region.noSelect ops = true) : ∀ (l : List Oper) (k : Nat) (listed : Array Bool) (a : Act), (∀ j, l[j]? = ops[k + j]?) →
    Region.lexFrom .any ops l.length k listed = true → wpGrow P ops J Q l a → anyGrow P ops J Q l.length listed a
  | [], _, _, _, _, hB, h => ⟨by simpa [Region.lexFrom] using hB, h⟩
  | o :: l, k, listed, a, hl, hB, h => by
    have h0 : ops[k]? = some o := by simpa using (hl 0).symm
    simp only [List.length_cons, Region.lexFrom, Bool.and_eq_true] at hB
    obtain ⟨⟨hr, hf⟩, hB'⟩ := hB
    obtain ⟨v, hy, hK⟩ := h
    exact anyGrow_first h0 (Region.noSelect_spec hs) l.length listed a (Region.free_spec h0 hf) (by simpa using hr) hy
      (anyGrow_lex hs l (k + 1) _ _ (fun j => by have := hl (j + 1); simpa [Nat.add_assoc, Nat.add_comm 1 j] using this) hB' hK)
theorem wp_region_grow {id : Nat} {Q : Exit → Act → World → Prop} {a : Act} {w : World} {l : List Oper} (J : World → Prop) (hm : P.follows .mixedOrders = true) (hB : Region.lexB .any l.toArray = true) (h0 : J w.drew)
    (h : wpGrow P l.toArray J (fun a' => ∀ w', J w' → Q .normal a' w') l a) : (Code.region id l.toArray true).wp P Q a w := by
  simp only [Region.lexB, Bool.and_eq_true] at hB
  have h1 := anyGrow_lex (Q := fun a' => ∀ w', J w' → Q .normal a' w') hB.1 l 0 (Array.replicate l.toArray.size false) a (by simp) (by simpa using hB.2) h
  refine wp_region_any hm (wpAny_anyGrow (Q := fun a' => ∀ w', J w' → Q .normal a' w') (fun a w hJ hq => hq w hJ) _ _ _ _ h0 ?_)
  simpa using h1
variable {Q : Act → Prop} {o : Oper} {rest : List Oper} {a : Act}
theorem grow_step {a' : Act} (h : ∀ w, J w → ∀ K : Act → Prop, K a' → if Region.wanted o (yielded ops a.tmps) then o.still P a w K else K (a.put o.dst undef))
    (hd : ∃ s, o.dst = some s ∧ s < a.tmps.size) (hJ : ∃ w, J w) (hn : wpGrow P ops J Q rest a') : wpGrow P ops J Q (o :: rest) a := by
  obtain ⟨s, hs, hlt⟩ := hd
  obtain ⟨w0, hw0⟩ := hJ
  have inj : ∀ u v : Value, a.put o.dst u = a.put o.dst v → u = v := by
    intro u v huv
    rw [hs] at huv
    have := congrArg (fun x : Act => x.tmps[s]?) huv
    simpa [Act.put, hlt] using this
  by_cases hw : Region.wanted o (yielded ops a.tmps) = true
  · have key : ∀ w, J w → ∃ u, ((execOp a.eval o).run P w = .ok (.value u) w ∨ ((execOp a.eval o).run P w = .ok .skip w ∧ u = undef) ∨ ∃ f args, (execOp a.eval o).run P w = .ok (.enter f args) w ∧ Calls P f args w (fun e w' => e = .returned u ∧ J w')) ∧ a' = a.put o.dst u := by
      intro w hj
      have := h w hj (fun b => b = a') rfl
      rw [if_pos hw] at this
      unfold Oper.still at this
      generalize (execOp a.eval o).run P w = r at this
      cases r with
      | ok n w' =>
        cases n <;> simp only [Oper.stillUpon] at this
        case value u => obtain ⟨rfl, h2⟩ := this; exact ⟨u, .inl rfl, h2.symm⟩
        case skip => obtain ⟨rfl, h2⟩ := this; exact ⟨undef, .inr (.inl ⟨rfl, rfl⟩), h2.symm⟩
        case enter f args =>
          obtain ⟨rfl, u, hc, h2⟩ := this
          exact ⟨u, .inr (.inr ⟨f, args, rfl, hc.mono fun e w'' ⟨he, hw'⟩ => ⟨he, by subst hw'; exact hj⟩⟩), h2.symm⟩
      | halt x w' => simp only [Oper.stillUpon] at this
    obtain ⟨v, _, hv⟩ := key w0 hw0
    refine ⟨v, .inl ⟨hw, fun w hj => ?_⟩, by rw [← hv]; exact hn⟩
    obtain ⟨u, hu, hu2⟩ := key w hj
    obtain rfl := inj u v (hu2.symm.trans hv)
    exact hu
  · have hw : Region.wanted o (yielded ops a.tmps) = false := by simpa using hw
    have := h w0 hw0 (fun b => b = a') rfl
    rw [if_neg (by rw [hw]; decide)] at this
    exact ⟨undef, .inr ⟨hw, rfl⟩, by rw [this]; exact hn⟩
theorem grow_call {f : FuncId} {args : Array Value} {v : Value} (hc : ∀ w, J w → Calls P f args w (fun e w' => e = .returned v ∧ J w')) (hw : Region.wanted o (yielded ops a.tmps) = true)
    (hr : ∀ w, J w → (execOp a.eval o).run P w = .ok (.enter f args) w) (hn : wpGrow P ops J Q rest (a.put o.dst v)) : wpGrow P ops J Q (o :: rest) a :=
  ⟨v, .inl ⟨hw, fun w hj => .inr (.inr ⟨f, args, hr w hj, hc w hj⟩)⟩, hn⟩
theorem grow_nil (h : Q a) : wpGrow P ops J Q [] a := h
end
end Go.Proofs.YtiagofgcinlnhaaGreatDoor
