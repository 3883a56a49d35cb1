/-
  Package head's Read of any bytes: what it answers as a plain function. No statement is proved here.
-/
import Derived.Test.YtnpmeolibdjgpaaGreatDoorHeadSome
import Derived.Test.YtnpmeolibdjgpaaGreatDoorHeadRead
namespace Go.Proofs.YtnpmeolibdjgpaaGreatDoor
open Go.RowKit

theorem trim_none {l : List UInt8} : (Lib.trimB l 0).isEmpty = l.all (· == 0) := by
  cases h : l.all (· == 0) with
  | true =>
    unfold Lib.trimB Lib.trimLeftB Lib.trimRightB
    have h1 : l.reverse.dropWhile (· == 0) = [] := by
      have hh : ∀ r : List UInt8, r.all (· == 0) = true → r.dropWhile (· == 0) = [] := fun r => by
        induction r with
        | nil => intro _; rfl
        | cons x r ih =>
          intro h
          rw [List.all_cons, Bool.and_eq_true] at h
          rw [List.dropWhile_cons, if_pos h.1]
          exact ih h.2
      exact hh _ (by rw [List.all_reverse]; exact h)
    rw [h1]
    rfl
  | false =>
    obtain ⟨x, hx, hp⟩ : ∃ x ∈ l, (x == (0 : UInt8)) = false := by
      have h := h
      rw [List.all_eq_false] at h
      obtain ⟨x, hx, hp⟩ := h
      exact ⟨x, hx, by simpa using hp⟩
    unfold Lib.trimB Lib.trimLeftB Lib.trimRightB
    have h1 : x ∈ (l.reverse.dropWhile (· == 0)).reverse := by
      rw [List.mem_reverse]
      exact dropWhile_keeps _ x (by rw [List.mem_reverse]; exact hx) hp
    have h2 := dropWhile_keeps (· == 0) x h1 hp
    cases h : ((l.reverse.dropWhile (· == 0)).reverse.dropWhile (· == 0)) with
    | nil => rw [h] at h2; cases h2
    | cons _ _ => rfl
theorem row_ints {w : World} {base : Nat} {A : Option Addr} {c : Nat} {l : List Int} (h : w.ownsRow base 3 1 (.slice A l.length c) l.length (l.map (Value.int .i64))) : Ints w w.heap.size A l := fun hp => by
  obtain ⟨gv, cap, e, _, hlt2⟩ := h.form hp
  injection e with e1 _ e3
  subst e1 e3
  refine ⟨gv, 0, rfl, hlt2, fun i x hx => ?_⟩
  have hc := h.cells (g := gv) rfl i (.int .i64 x) (by rw [List.getElem?_map, hx]; rfl)
  rwa [add_off] at hc
theorem row_lower {w : World} {base base' : Nat} {e : TypeId} {size : Nat} {v : Value} {n : Nat} {xs : List Value} (h : w.ownsRow base e size v n xs) (hb : base' ≤ base) : w.ownsRow base' e size v n xs := by
  refine ⟨h.1, ?_⟩
  rcases h.2 with hn | ⟨g, cap, cur, rfl, hb1, rest⟩
  · exact .inl hn
  · exact .inr ⟨g, cap, cur, rfl, by omega, rest⟩
def HD.zero : HD := ⟨0, false, []⟩
/-- What Read answers. -/
def readHD (b : List UInt8) : HD × Int :=
  if b.length ≠ 256 then (HD.zero, 5)
  else if b.all (· == 0) then (HD.zero, 0)
  else if (openB b).2 ≠ 0 then (HD.zero, (openB b).2)
  else if (parseHD (bs (openB b).1)).validB = true ∧ (parseHD (bs (openB b).1)).text = b then (parseHD (bs (openB b).1), 0) else (HD.zero, 6)

set_option maxRecDepth 100000 in
set_option maxHeartbeats 4000000 in
theorem hread_own (X : ByteArray) (w : World) :
    Calls Tryz.prog 15 #[.string X] w fun e w' => ∃ A c, e = .returned (.tuple #[(readHD X.data.toList).1.val A c, .int .i64 (readHD X.data.toList).2]) ∧ w'.ownsRow w.heap.size 3 1 (.slice A (readHD X.data.toList).1.ts.length c) (readHD X.data.toList).1.ts.length ((readHD X.data.toList).1.ts.map (Value.int .i64)) ∧ (readHD X.data.toList).1.ts.length ≤ 110 ∧ Below w.heap.size w w' := by
  have hlen : X.data.toList.length = X.size := (Lib.size_eq X).symm
  obtain ⟨Q, hQ⟩ : ∃ Q, Q = readHD X.data.toList := ⟨_, rfl⟩
  rw [← hQ]
  have R0 : Blk (w.alloc (.cells #[.int .i64 0, .bool false, .slice none 0 0] 29)) w.heap.size 29 #[.int .i64 0, .bool false, .slice none 0 0] := Blk.new w _ _
  have B0 : Below w.heap.size w (w.alloc (.cells #[.int .i64 0, .bool false, .slice none 0 0] 29)) := (Below.refl _ _).alloc (Nat.le_refl _) _
  by_cases h1 : X.size = 256
  · have hXI : (X.size : Int) = 256 := by omega
    obtain ⟨Z, hZ⟩ : ∃ Z : ByteArray, Z = ⟨(Lib.trimB X.data.toList 0).toArray⟩ := ⟨_, rfl⟩
    have hZe : Z.toList.isEmpty = X.data.toList.all (· == 0) := by
      rw [hZ, Lib.toList_data]
      exact trim_none
    have HTRIM : Hid (∀ W, Calls Tryz.prog 57 #[.string X, .string ⟨#[0]⟩] W fun e w' => e = .returned (.string Z) ∧ Below W.heap.size W w') := Lib.hid (fun W => by
      refine (h_strings_Trim_one X 0 (by decide) W (by omega)).mono ?_
      rintro e w' ⟨rfl, hw | hw⟩
      · exact ⟨by rw [hZ], hw ▸ Below.refl _ _⟩
      · exact ⟨by rw [hZ], by rw [hw]; exact (Below.refl _ _).drew⟩)
    by_cases h2 : X.data.toList.all (· == 0) = true
    · have E : Q = (HD.zero, 0) := by rw [hQ]; unfold readHD; rw [if_neg (by omega), if_pos h2]
      subst E
      rw [h2] at hZe
      have HR0 := Lib.hid R0
      have HB0 := Lib.hid B0
      clear hQ hlen hZ h2 R0 B0
      go_enter Tryz.func15, Tryz.ntmps15
      go_wp2_with fail
      refine (HTRIM.out _).mono ?_
      rintro e w1 ⟨rfl, hb1⟩
      have HR1 := Lib.hid (HR0.out.below hb1 HR0.out.lt)
      have HB1 := Lib.hid (HB0.out.trans (hb1.mono HB0.out.size))
      clear hb1
      have r0 := HR1.out.cell 0
      have r1 := HR1.out.cell 1
      have r2 := HR1.out.cell 2
      have f0 := HR1.out.frozen 0
      have f1 := HR1.out.frozen 1
      have f2 := HR1.out.frozen 2
      simp at r0 r1 r2
      go_wp2_with fail
      have b3 := ((HR1.out.put 0 (.int .i64 0)).put 1 (.bool false)).put 2 (.slice none 0 0)
      refine hret_cell2 rfl rfl (head_var b3) rfl rfl ?_
      exact ⟨none, 0, rfl, World.ownsRow_nil _ _ _ _, by decide, ((HB1.out.setCell (Nat.le_refl _) _).setCell (Nat.le_refl _) _).setCell (Nat.le_refl _) _⟩
    · have h2' : X.data.toList.all (· == 0) = false := by simpa using h2
      rw [h2'] at hZe
      obtain ⟨O, hO⟩ : ∃ O, O = openB X.data.toList := ⟨_, rfl⟩
      obtain ⟨Y, hY⟩ : ∃ Y : ByteArray, Y = ⟨O.1.toArray⟩ := ⟨_, rfl⟩
      have HOPEN : Hid (∀ W, Calls Tryz.prog 58 #[.string X] W fun e w' => e = .returned (.tuple #[.string Y, .int .i64 O.2]) ∧ Below W.heap.size W w') := Lib.hid (fun W => by
        have h1 := open_any X W (by omega)
        have e : openV X.data.toList = .tuple #[.string Y, .int .i64 O.2] := by unfold openV; rw [← hO, hY]
        rwa [e] at h1)
      by_cases h3 : O.2 = 0
      · obtain ⟨h, hh⟩ : ∃ h, h = parseHD (bs O.1) := ⟨_, rfl⟩
        have E : Q = if h.validB = true ∧ h.text = X.data.toList then (h, 0) else (HD.zero, 6) := by rw [hQ]; unfold readHD; rw [if_neg (by omega), if_neg h2, ← hO, if_neg (by omega), ← hh]
        have hYY : Y = bs O.1 := by rw [hY]; rfl
        have hYs : Y.size ≤ 1000000 := by
          rw [hYY, bs_size, hO]
          unfold openB
          split
          · simp
          · split
            · simp; omega
            · simp
        have HPARSE : Hid (∀ W, Calls Tryz.prog 59 #[.string Y] W fun e w' => ∃ A c, e = .returned (h.val A c) ∧ w'.ownsRow W.heap.size 3 1 (.slice A h.ts.length c) h.ts.length (h.ts.map (Value.int .i64)) ∧ h.ts.length ≤ 110 ∧ Below W.heap.size W w') := Lib.hid (fun W => by
          have := hparse_own Y hYs W
          rwa [show parseHD Y = h by rw [hh, hYY]] at this)
        obtain ⟨L, hL⟩ : ∃ L : ByteArray × Int, L = if h.validB then (bs h.text, 0) else (⟨#[]⟩, 1) := ⟨_, rfl⟩
        have hlay : ∀ (A : Option Addr) (c : Nat) (W : World), h.At W A c → Calls Tryz.prog 11 #[h.val A c] W fun e w' => e = .returned (.tuple #[.string L.1, .int .i64 L.2]) ∧ Below W.heap.size W w' := fun A c W ha => by
          have := hlay_any h A c W ha
          have e : (if h.validB then Value.tuple #[.string (bs h.text), .int .i64 0] else .tuple #[.string ⟨#[]⟩, .int .i64 1]) = .tuple #[.string L.1, .int .i64 L.2] := by rw [hL]; split <;> rfl
          rwa [e] at this
        have hcmp : ∀ ok : Bool, ok = decide (h.validB = true ∧ h.text = X.data.toList) → (L.1.toList == X.toList) = ok := fun ok hk => by
          rw [hk, hL]
          cases hv : h.validB with
          | true =>
            simp only [if_true, Lib.toList_data, bs_list, true_and]
            rw [Bool.eq_iff_iff]
            simp
          | false =>
            simp only [Bool.false_eq_true, if_false, false_and, decide_false, Lib.toList_data]
            refine beq_eq_false_iff_ne.2 (fun e => ?_)
            have := congrArg List.length e
            simp at this
            omega
        have HLAY := Lib.hid hlay
        by_cases h4 : h.validB = true ∧ h.text = X.data.toList
        · rw [if_pos h4] at E
          subst E
          have hc := hcmp true (decide_eq_true h4).symm
          simp only
          obtain ⟨seq, full, ts⟩ := h
          obtain ⟨n, hn⟩ : ∃ n, n = ts.length := ⟨_, rfl⟩
          unfold HD.val at HPARSE HLAY ⊢
          simp only at HPARSE HLAY ⊢
          rw [← hn] at HPARSE HLAY ⊢
          have HN := Lib.hid hn
          have HR0 := Lib.hid R0
          have HB0 := Lib.hid B0
          clear hQ hlen hZ h2 R0 B0 h2' hO hY hYY hYs hh hL hlay hcmp h4 hn
          go_enter Tryz.func15, Tryz.ntmps15
          go_wp2_with fail
          refine (HTRIM.out _).mono ?_
          rintro e w1 ⟨rfl, hb1⟩
          have HR1 := Lib.hid (HR0.out.below hb1 HR0.out.lt)
          have HB1 := Lib.hid (HB0.out.trans (hb1.mono HB0.out.size))
          clear hb1
          go_wp2_with fail
          refine (HOPEN.out _).mono ?_
          rintro e w2 ⟨rfl, hb2⟩
          have HR2 := Lib.hid (HR1.out.below hb2 HR1.out.lt)
          have HB2 := Lib.hid (HB1.out.trans (hb2.mono HB1.out.size))
          clear hb2 hZe
          go_wp2_with fail
          refine (HPARSE.out _).mono ?_
          rintro e w3 ⟨A, c, rfl, hrw, hfew, hb3⟩
          have hr3 := HR2.out.below hb3 HR2.out.lt
          have HR3 := Lib.hid hr3
          have HB3 := Lib.hid (HB2.out.trans (hb3.mono HB2.out.size))
          have HLT : Hid (w.heap.size < w2.heap.size) := Lib.hid HR2.out.lt
          have HBW : Hid (w.heap.size ≤ w2.heap.size) := Lib.hid HB2.out.size
          have hat : (HD.mk seq full ts).At w3 A c := by
            have hh : w3.ownsRow w2.heap.size 3 1 (.slice A ts.length c) ts.length (ts.map (Value.int .i64)) := by rw [← HN.out]; exact hrw
            exact ⟨row_ints hh, by show ts.length ≤ _; rw [← HN.out]; omega⟩
          have HFEW := Lib.hid hfew
          have HAT := Lib.hid hat
          have HRW0 := Lib.hid hrw
          have HL := Lib.hid (fun W => HLAY.out A c W)
          clear hrw hfew hb3 hr3 hat HLAY HPARSE
          go_wp2_with fail
          have hal : (HD.mk seq full ts).At (w3.alloc (.cells #[.int .i64 seq, .bool full, .slice A n c] 29)) A c := HAT.out.below ((Below.refl _ _).alloc (Nat.le_refl _) _)
          refine (HL.out _ hal).mono ?_
          rintro e w4 ⟨rfl, hb4⟩
          have bh : Blk w4 w3.heap.size 29 #[.int .i64 seq, .bool full, .slice A n c] := (Blk.new w3 _ _).below hb4 (by simp)
          have br : Blk w4 w.heap.size 29 #[.int .i64 0, .bool false, .slice none 0 0] := HR3.out.below (((Below.refl _ _).alloc (Nat.le_refl _) _).trans (hb4.mono (by simp))) HR3.out.lt
          have HBR := Lib.hid br
          have HB4 : Hid (Below w.heap.size w w4) := Lib.hid ((HB3.out.alloc HB3.out.size _).trans (hb4.mono (by have := HB3.out.size; simp; omega)))
          have HRW : Hid (w4.ownsRow w2.heap.size 3 1 (.slice A n c) n (ts.map (Value.int .i64))) := Lib.hid (row_kept' HRW0.out (fun k e => by
            have hk := (HRW0.out.lt k e).2
            exact ((((Below.refl w3.heap.size w3).alloc (Nat.le_refl _) _).trans (hb4.mono (by simp))).block k hk)))
          have c0 := bh.cell 0
          have c1 := bh.cell 1
          have c2 := bh.cell 2
          have r0 := br.cell 0
          have r1 := br.cell 1
          have r2 := br.cell 2
          have f0 := br.frozen 0
          have f1 := br.frozen 1
          have f2 := br.frozen 2
          simp at c0 c1 c2 r0 r1 r2
          clear hb4 hal bh br
          go_wp2_with fail
          have b3 := ((HBR.out.put 0 (.int .i64 seq)).put 1 (.bool full)).put 2 (.slice A n c)
          refine hret_cell2 rfl rfl (head_var b3) rfl rfl ?_
          refine ⟨A, c, rfl, row_lower (row_kept' HRW.out (fun q e => ?_)) HBW.out, HFEW.out, ((HB4.out.setCell (Nat.le_refl _) _).setCell (Nat.le_refl _) _).setCell (Nat.le_refl _) _⟩
          have hne : q ≠ w.heap.size := fun e2 => by have := (HRW.out.lt q e).1; have := HLT.out; omega
          exact (Below.heap_setCell _ _ _ _ (fun e => hne e)).trans ((Below.heap_setCell _ _ _ _ (fun e => hne e)).trans (Below.heap_setCell _ _ _ _ (fun e => hne e)))
        · rw [if_neg h4] at E
          subst E
          have hc := hcmp false (decide_eq_false h4).symm
          simp only
          obtain ⟨seq, full, ts⟩ := h
          obtain ⟨n, hn⟩ : ∃ n, n = ts.length := ⟨_, rfl⟩
          unfold HD.val at HPARSE HLAY
          simp only at HPARSE HLAY
          rw [← hn] at HPARSE HLAY
          have HN := Lib.hid hn
          have HR0 := Lib.hid R0
          have HB0 := Lib.hid B0
          clear hQ hlen hZ h2 R0 B0 h2' hO hY hYY hYs hh hL hlay hcmp h4 hn
          go_enter Tryz.func15, Tryz.ntmps15
          go_wp2_with fail
          refine (HTRIM.out _).mono ?_
          rintro e w1 ⟨rfl, hb1⟩
          have HR1 := Lib.hid (HR0.out.below hb1 HR0.out.lt)
          have HB1 := Lib.hid (HB0.out.trans (hb1.mono HB0.out.size))
          clear hb1
          go_wp2_with fail
          refine (HOPEN.out _).mono ?_
          rintro e w2 ⟨rfl, hb2⟩
          have HR2 := Lib.hid (HR1.out.below hb2 HR1.out.lt)
          have HB2 := Lib.hid (HB1.out.trans (hb2.mono HB1.out.size))
          clear hb2 hZe
          go_wp2_with fail
          refine (HPARSE.out _).mono ?_
          rintro e w3 ⟨A, c, rfl, hrw, hfew, hb3⟩
          have hr3 := HR2.out.below hb3 HR2.out.lt
          have HR3 := Lib.hid hr3
          have HB3 := Lib.hid (HB2.out.trans (hb3.mono HB2.out.size))
          have HLT : Hid (w.heap.size < w2.heap.size) := Lib.hid HR2.out.lt
          have HBW : Hid (w.heap.size ≤ w2.heap.size) := Lib.hid HB2.out.size
          have hat : (HD.mk seq full ts).At w3 A c := by
            have hh : w3.ownsRow w2.heap.size 3 1 (.slice A ts.length c) ts.length (ts.map (Value.int .i64)) := by rw [← HN.out]; exact hrw
            exact ⟨row_ints hh, by show ts.length ≤ _; rw [← HN.out]; omega⟩
          have HFEW := Lib.hid hfew
          have HAT := Lib.hid hat
          have HRW0 := Lib.hid hrw
          have HL := Lib.hid (fun W => HLAY.out A c W)
          clear hrw hfew hb3 hr3 hat HLAY HPARSE
          go_wp2_with fail
          have hal : (HD.mk seq full ts).At (w3.alloc (.cells #[.int .i64 seq, .bool full, .slice A n c] 29)) A c := HAT.out.below ((Below.refl _ _).alloc (Nat.le_refl _) _)
          refine (HL.out _ hal).mono ?_
          rintro e w4 ⟨rfl, hb4⟩
          have bh : Blk w4 w3.heap.size 29 #[.int .i64 seq, .bool full, .slice A n c] := (Blk.new w3 _ _).below hb4 (by simp)
          have br : Blk w4 w.heap.size 29 #[.int .i64 0, .bool false, .slice none 0 0] := HR3.out.below (((Below.refl _ _).alloc (Nat.le_refl _) _).trans (hb4.mono (by simp))) HR3.out.lt
          have HBR := Lib.hid br
          have HB4 : Hid (Below w.heap.size w w4) := Lib.hid ((HB3.out.alloc HB3.out.size _).trans (hb4.mono (by have := HB3.out.size; simp; omega)))
          have HRW : Hid (w4.ownsRow w2.heap.size 3 1 (.slice A n c) n (ts.map (Value.int .i64))) := Lib.hid (row_kept' HRW0.out (fun k e => by
            have hk := (HRW0.out.lt k e).2
            exact ((((Below.refl w3.heap.size w3).alloc (Nat.le_refl _) _).trans (hb4.mono (by simp))).block k hk)))
          have c0 := bh.cell 0
          have c1 := bh.cell 1
          have c2 := bh.cell 2
          have r0 := br.cell 0
          have r1 := br.cell 1
          have r2 := br.cell 2
          have f0 := br.frozen 0
          have f1 := br.frozen 1
          have f2 := br.frozen 2
          simp at c0 c1 c2 r0 r1 r2
          clear hb4 hal bh br
          go_wp2_with fail
          have b3 := ((HBR.out.put 0 (.int .i64 0)).put 1 (.bool false)).put 2 (.slice none 0 0)
          refine hret_cell2 rfl rfl (head_var b3) rfl rfl ?_
          exact ⟨none, 0, rfl, World.ownsRow_nil _ _ _ _, by decide, ((HB4.out.setCell (Nat.le_refl _) _).setCell (Nat.le_refl _) _).setCell (Nat.le_refl _) _⟩
      · have E : Q = (HD.zero, O.2) := by rw [hQ]; unfold readHD; rw [if_neg (by omega), if_neg h2, ← hO, if_pos h3]
        subst E
        obtain ⟨x, hx⟩ : ∃ x, x = O.2 := ⟨_, rfl⟩
        rw [← hx] at HOPEN h3 ⊢
        have h3' : (x != 0) = true := by rw [bne_iff_ne]; exact h3
        have HR0 := Lib.hid R0
        have HB0 := Lib.hid B0
        clear hQ hlen hZ h2 R0 B0 h2' hO hY hx
        go_enter Tryz.func15, Tryz.ntmps15
        go_wp2_with fail
        refine (HTRIM.out _).mono ?_
        rintro e w1 ⟨rfl, hb1⟩
        have HR1 := Lib.hid (HR0.out.below hb1 HR0.out.lt)
        have HB1 := Lib.hid (HB0.out.trans (hb1.mono HB0.out.size))
        clear hb1
        go_wp2_with fail
        refine (HOPEN.out _).mono ?_
        rintro e w2 ⟨rfl, hb2⟩
        have HR2 := Lib.hid (HR1.out.below hb2 HR1.out.lt)
        have HB2 := Lib.hid (HB1.out.trans (hb2.mono HB1.out.size))
        clear hb2
        have r0 := HR2.out.cell 0
        have r1 := HR2.out.cell 1
        have r2 := HR2.out.cell 2
        have f0 := HR2.out.frozen 0
        have f1 := HR2.out.frozen 1
        have f2 := HR2.out.frozen 2
        simp at r0 r1 r2
        go_wp2_with fail
        have b3 := ((HR2.out.put 0 (.int .i64 0)).put 1 (.bool false)).put 2 (.slice none 0 0)
        refine hret_cell2 rfl rfl (head_var b3) rfl rfl ?_
        exact ⟨none, 0, rfl, World.ownsRow_nil _ _ _ _, by decide, ((HB2.out.setCell (Nat.le_refl _) _).setCell (Nat.le_refl _) _).setCell (Nat.le_refl _) _⟩
  · have h1' : ¬ (X.size : Int) = 256 := by omega
    have h1b : ((X.size : Int) != 256) = true := by rw [bne_iff_ne]; exact h1'
    have E : Q = (HD.zero, 5) := by rw [hQ]; unfold readHD; rw [if_pos (by omega)]
    subst E
    have HR0 := Lib.hid R0
    have HB0 := Lib.hid B0
    clear hQ hlen R0 B0
    have r0 := HR0.out.cell 0
    have r1 := HR0.out.cell 1
    have r2 := HR0.out.cell 2
    have f0 := HR0.out.frozen 0
    have f1 := HR0.out.frozen 1
    have f2 := HR0.out.frozen 2
    simp at r0 r1 r2
    go_enter Tryz.func15, Tryz.ntmps15
    go_wp2_with fail
    refine hret_cell2 rfl rfl (head_var HR0.out) rfl rfl ?_
    exact ⟨none, 0, rfl, World.ownsRow_nil _ _ _ _, by decide, HB0.out⟩
end Go.Proofs.YtnpmeolibdjgpaaGreatDoor
