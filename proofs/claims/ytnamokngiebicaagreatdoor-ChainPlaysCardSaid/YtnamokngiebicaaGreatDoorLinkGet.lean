/-
  Package chain's Get. No statement is proved here.
-/
import Derived.Test.YtnamokngiebicaaGreatDoorLinkWalk
import Derived.Test.YtnamokngiebicaaGreatDoorWalState
import Derived.Test.YtnamokngiebicaaGreatDoorTexts
namespace Go.Proofs.YtnamokngiebicaaGreatDoor
open Go.RowKit

def catK (l : List LK) : List UInt8 := l.flatMap fun x => x.data.data.toList
theorem catK_snoc (l : List LK) (x : LK) : catK (l ++ [x]) = catK l ++ x.data.data.toList := by simp [catK]
theorem catK_le {l : List LK} (h : ∀ x ∈ l, x.data.size ≤ 100000) : (catK l).length ≤ l.length * 100000 := by
  induction l with
  | nil => simp [catK]
  | cons x r ih =>
    have h1 := ih (fun y hy => h y (by simp [hy]))
    have h2 := h x (by simp)
    show (x.data.data.toList ++ catK r).length ≤ _
    rw [List.length_append, ← Lib.size_eq, List.length_cons]
    omega
theorem walkC_data {G : Int → ByteArray × Int} (hG : ∀ t, (G t).1.size ≤ 100000) : ∀ (n : Nat) (l : List LK) (t : Int), (∀ x ∈ l, x.data.size ≤ 100000) → ∀ x ∈ (walkC G n l t).1, x.data.size ≤ 100000
  | 0, l, t, _ => by intro x hx; cases hx
  | n + 1, l, t, h => by
    have hd : (readL (G t).1).1.data.size ≤ 100000 := Nat.le_trans (readL_data _) (hG t)
    have h2 : ∀ x ∈ l ++ [((readL (G t).1).1.put t)], x.data.size ≤ 100000 := by
      intro x hx
      rcases List.mem_append.1 hx with hx | hx
      · exact h x hx
      · rw [List.mem_singleton.1 hx]; exact hd
    unfold walkC
    split
    · intro x hx; cases hx
    · split
      · intro x hx; cases hx
      · split
        · exact h2
        · exact walkC_data hG n _ _ h2
theorem chainR_len (K : KD) (t : Int) : (chainR K t).1.length ≤ 40 := by
  have := walkC_len (getR K) 40 [] t
  simpa [chainR] using this
/-- What Get answers: the form, the tag, how often it is used, the bytes. -/
def getC (R : List LK × Int) : Int × Int × Int × ByteArray := if R.2 ≠ 0 then (0, 0, 0, .empty) else ((R.1.headD LK.zero).gen, (R.1.headD LK.zero).tag, (R.1.headD LK.zero).refs, joinC R.1)
def chV (q : Int × Int × Int × ByteArray) : Value := .agg #[.int .i64 q.1, .int .i64 q.2.1, .int .i64 q.2.2.1, .string q.2.2.2]

def cgD (i : Nat) : Option Nat := [some 31, some 32, some 33, some 34, some 35, some 36, some 37, some 38, some 39, some 40, some 41, some 42, some 43, some 44, none, some 5].getD i none
theorem cgD_far {s : Nat} (h : s < 5 ∨ (5 < s ∧ s < 31) ∨ 44 < s) : ∀ i, i < 16 → cgD i ≠ some s := by
  intro i hi e
  have : ∀ i, i < 16 → ∀ t, cgD i = some t → t = 5 ∨ (31 ≤ t ∧ t ≤ 44) := by
    intro i hi t
    rcases (show i = 0 ∨ i = 1 ∨ i = 2 ∨ i = 3 ∨ i = 4 ∨ i = 5 ∨ i = 6 ∨ i = 7 ∨ i = 8 ∨ i = 9 ∨ i = 10 ∨ i = 11 ∨ i = 12 ∨ i = 13 ∨ i = 14 ∨ i = 15 by omega) with rfl | rfl | rfl | rfl | rfl | rfl | rfl | rfl | rfl | rfl | rfl | rfl | rfl | rfl | rfl | rfl <;> intro e <;> simp [cgD] at e <;> omega
  have := this i hi s e
  omega
def cgV (b n c : Nat) (gen tag refs : Int) (J : ByteArray) : Nat → Value
  | 0 => .slice (some ⟨b, 0, none⟩) n c
  | 1 => .pointer (some ⟨b, 0, none⟩)
  | 2 => .pointer (some ⟨b, 0, none⟩)
  | 3 => .int .i64 gen
  | 4 => .slice (some ⟨b, 0, none⟩) n c
  | 5 => .pointer (some ⟨b, 0, none⟩)
  | 6 => .pointer (some ⟨b, 1, none⟩)
  | 7 => .int .i64 tag
  | 8 => .slice (some ⟨b, 0, none⟩) n c
  | 9 => .pointer (some ⟨b, 0, none⟩)
  | 10 => .pointer (some ⟨b, 3, none⟩)
  | 11 => .int .i64 refs
  | 12 => .string J
  | 13 => .agg #[.int .i64 gen, .int .i64 tag, .int .i64 refs, .string J]
  | 14 => undef
  | _ => .int .i64 0
/-- What holds of memory in the last region: ahead of the store, and behind it. -/
structure CgJ (w W : World) (b : Nat) (gb : Nat) (x : LK) (L : List UInt8) (J : ByteArray) (D : Nat → Bool) (w' : World) : Prop where
  below : Below w.heap.size w w'
  cells : LinkCells w' b 0 x
  bl : D 12 = false → Lib.IsBuilderF 125 5 gb gb (Lib.byteCells L) w'
  gb : gb ≤ w'.heap.size
  ahead : D 14 = false → Blk w' w.heap.size 79 #[.int .i64 0, .int .i64 0, .int .i64 0, .string ⟨#[]⟩]
  behind : D 14 = true → Blk w' w.heap.size 79 #[.int .i64 x.gen, .int .i64 x.tag, .int .i64 x.refs, .string J]
theorem LinkCells.kept {w w' : World} {g o : Nat} {x : LK} (h : LinkCells w g o x) (hb : w'.heap[g]? = w.heap[g]?) : LinkCells w' g o x :=
  ⟨(World.cell?_of_block (a := ⟨g, o, none⟩) hb).trans h.c0, (World.cell?_of_block (a := ⟨g, o + 1, none⟩) hb).trans h.c1, (World.cell?_of_block (a := ⟨g, o + 2, none⟩) hb).trans h.c2, (World.cell?_of_block (a := ⟨g, o + 3, none⟩) hb).trans h.c3, (World.cell?_of_block (a := ⟨g, o + 4, none⟩) hb).trans h.c4, (World.cell?_of_block (a := ⟨g, o + 5, none⟩) hb).trans h.c5, (World.cell?_of_block (a := ⟨g, o + 6, none⟩) hb).trans h.c6⟩

set_option maxRecDepth 100000 in
set_option maxHeartbeats 16000000 in
theorem cget_any {w0 w : World} {g gd m N : Nat} {K : KD} {h : List ByteArray} {c0 : Nat} (s : DSt w0 w g gd m K) (r : Run11 N K h c0) {t0 : Int} (ht : I64 t0) :
    Calls Tryz.prog 42 #[.pointer (some ⟨g, 0, none⟩), .int .i64 t0] w fun e w' => e = .returned (.tuple #[chV (getC (chainR K t0)), .int .i64 (chainR K t0).2]) ∧ Below w.heap.size w w' := by
  have HWK : Hid (∀ w1, Below w.heap.size w w1 → Calls Tryz.prog 78 #[.pointer (some ⟨g, 0, none⟩), .int .i64 t0] w1 fun e w' => WalkSays w1 (chainR K t0) e w') := Lib.hid (fun w1 hb => kwalk_any (s.below hb) r ht)
  have hlen := chainR_len K t0
  have hdat : ∀ x ∈ (chainR K t0).1, x.data.size ≤ 100000 := walkC_data r.getR_size 40 [] t0 (fun x hx => by cases hx)
  have hpos : (chainR K t0).2 = 0 → 0 < (chainR K t0).1.length := fun h => Nat.lt_of_le_of_lt (Nat.zero_le _) (walkC_ok (getR K) 40 [] t0 h)
  obtain ⟨R, hR⟩ : ∃ R, R = chainR K t0 := ⟨_, rfl⟩
  rw [← hR] at HWK hlen hdat hpos ⊢
  obtain ⟨l, er⟩ := R
  simp only at hlen hdat hpos
  obtain ⟨n, hn⟩ : ∃ n, n = l.length := ⟨_, rfl⟩
  have HN := Lib.hid hn
  have HD := Lib.hid hdat
  have hnI : (n : Int) ≤ 40 := by omega
  have HP := Lib.hid hpos
  clear hR s r ht hlen hdat hpos hn
  by_cases he : er = 0
  rotate_left
  · have z0 : (er == 0) = false := by simpa using he
    have HE : Hid (chV (getC (l, er)) = .agg #[.int .i64 0, .int .i64 0, .int .i64 0, .string ⟨#[]⟩]) := Lib.hid (by unfold getC; rw [if_pos he]; rfl)
    clear he
    go_enter Tryz.func42, Tryz.ntmps42
    go_wp2_with fail
    refine (HWK.out _ ((Below.refl _ _).alloc (Nat.le_refl _) _)).mono ?_
    rintro e w1 ⟨A, c, rfl, -, hb1⟩
    have HB1 : Hid (Below w.heap.size w w1) := Lib.hid (((Below.refl _ _).alloc (Nat.le_refl _) _).trans (hb1.mono (by simp)))
    have b1 : Blk w1 w.heap.size 79 #[.int .i64 0, .int .i64 0, .int .i64 0, .string ⟨#[]⟩] := (Blk.new w _ _).below hb1 (by simp)
    have k0 := b1.cell 0
    have k1 := b1.cell 1
    have k2 := b1.cell 2
    have k3 := b1.cell 3
    have f0 := b1.frozen 0
    have f1 := b1.frozen 1
    have f2 := b1.frozen 2
    have f3 := b1.frozen 3
    simp at k0 k1 k2 k3
    clear hb1
    go_wp2_with fail
    have b2 := (((b1.put 0 (.int .i64 0)).put 1 (.int .i64 0)).put 2 (.int .i64 0)).put 3 (.string ⟨#[]⟩)
    refine ret_cell2k rfl rfl (run_var_part (off := 0) b2 (fun j v h => by rw [Nat.zero_add]; exact h) (fun w => by kernel_rfl) (fun w => by kernel_rfl)) rfl rfl ?_
    exact ⟨by rw [HE.out]; rfl, (((HB1.out.setCell (Nat.le_refl _) _).setCell (Nat.le_refl _) _).setCell (Nat.le_refl _) _).setCell (Nat.le_refl _) _⟩
  subst he
  have hnp : 0 < n := by rw [HN.out]; exact HP.out rfl
  obtain ⟨x, hx⟩ : ∃ x, l[0]? = some x := ⟨_, List.getElem?_eq_getElem (by rw [← HN.out]; exact hnp)⟩
  have HX := Lib.hid hx
  obtain ⟨J, hJ⟩ : ∃ J, J = joinC l := ⟨_, rfl⟩
  have HJ := Lib.hid hJ
  have HE : Hid (chV (getC (l, 0)) = .agg #[.int .i64 x.gen, .int .i64 x.tag, .int .i64 x.refs, .string J]) := Lib.hid (by
    unfold getC
    rw [if_neg (by simp)]
    have : l.headD LK.zero = x := by
      cases l with
      | nil => cases hx
      | cons y r => simpa using hx
    show chV ((l.headD LK.zero).gen, (l.headD LK.zero).tag, (l.headD LK.zero).refs, joinC l) = _
    rw [this, ← hJ]
    rfl)
  have hnpI : 0 < (n : Int) := by omega
  clear hx hJ
  go_enter Tryz.func42, Tryz.ntmps42
  go_wp2_with fail
  refine (HWK.out _ ((Below.refl _ _).alloc (Nat.le_refl _) _)).mono ?_
  rintro e w1 ⟨A, c, rfl, hrow, hb1⟩
  rw [show ((l, (0 : Int)).1.length) = n from HN.out.symm] at hrow ⊢
  obtain ⟨b, rfl, hbb, hblt, hcel⟩ := links_cells hrow hnp
  have HB1 : Hid (Below w.heap.size w w1) := Lib.hid (((Below.refl _ _).alloc (Nat.le_refl _) _).trans (hb1.mono (by simp)))
  have HK1 : Hid (Blk w1 w.heap.size 79 #[.int .i64 0, .int .i64 0, .int .i64 0, .string ⟨#[]⟩]) := Lib.hid ((Blk.new w _ _).below hb1 (by simp))
  have HC1 : Hid (∀ (j : Nat) (x : LK), l[j]? = some x → LinkCells w1 b (j * 7) x) := Lib.hid hcel
  have HBL : Hid (b < w1.heap.size ∧ w.heap.size < b) := Lib.hid ⟨hblt, by simp at hbb; omega⟩
  clear hrow hbb hblt hcel hb1 HWK
  have hb0 : Lib.IsBuilderF 125 5 w1.heap.size w1.heap.size (Lib.byteCells []) (w1.alloc (.cells #[.pointer none, .slice none 0 0] 125)) := Lib.IsBuilderF.of (Lib.fresh_isBuilder _ _ w1)
  have HBU := Lib.hid hb0
  clear hb0
  go_wp2_with fail
  go_loopw [23] (fun i wr => ∃ j : Nat, j ≤ n ∧ i = .int .i64 j ∧ Lib.IsBuilderF 125 5 w1.heap.size w1.heap.size (Lib.byteCells (catK (l.take j))) wr ∧ Below w1.heap.size w1 wr) (fun i _ => n - (intOf i).toNat)
  case atStart => exact ⟨0, Nat.zero_le _, rfl, by simpa [catK] using HBU.out, (Below.refl _ _).alloc (Nat.le_refl _) _⟩
  case round =>
    obtain ⟨j, hj, rfl, hbu, hbr⟩ := hrel
    have HBR := Lib.hid hbr
    have HB := Lib.hid hbu
    clear hbu hbr HBU
    by_cases hlt : j < n
    · have hjl : j < l.length := by rw [← HN.out]; exact hlt
      obtain ⟨y, hy⟩ : ∃ y, l[j]? = some y := ⟨_, List.getElem?_eq_getElem hjl⟩
      have hyc := (HC1.out j y hy).kept (HBR.out.block b HBL.out.1)
      obtain ⟨c0, c1, c2, c3, c4, c5, c6⟩ := hyc
      have hys : y.data.size ≤ 100000 := HD.out y (List.mem_of_getElem? hy)
      have HSN : Hid (catK (l.take (j + 1)) = catK (l.take j) ++ y.data.data.toList) := Lib.hid (by rw [List.take_add_one, hy]; exact catK_snoc _ _)
      have HLE : Hid ((Lib.byteCells (catK (l.take j))).length + y.data.size ≤ 140737488355328) := Lib.hid (by
        rw [Lib.byteCells_length]
        have := catK_le (l := l.take j) (fun z hz => HD.out z (List.mem_of_mem_take hz))
        have h2 : (l.take j).length ≤ 40 := by rw [List.length_take]; omega
        have h3 := Nat.mul_le_mul_right 100000 h2
        omega)
      obtain ⟨gen, tag, num, refs, next, B, at_⟩ := y
      simp only at c0 c1 c2 c3 c4 c5 c6
      have hjI : (j : Int) < (n : Int) := by omega
      have HLT := Lib.hid hlt
      have HBA := Lib.hid (HB.out.alloc (.cells #[.int .i64 gen, .int .i64 tag, .int .i64 num, .int .i64 refs, .int .i64 next, .string B, .int .i64 at_] 118))
      have HSA : Hid (w1.heap.size ≤ (wr.alloc (.cells #[.int .i64 gen, .int .i64 tag, .int .i64 num, .int .i64 refs, .int .i64 next, .string B, .int .i64 at_] 118)).heap.size) := Lib.hid (by have := HBR.out.size; simp; omega)
      simp only at HLE HSN
      clear hy hys hjl hlt
      go_wp2_with (go_at_call 79; refine (sb_string w1.heap.size w1.heap.size _ B _ HBA.out HLE.out HSA.out).mono ?_; rintro e w3 ⟨rfl, hB3, hb3, _⟩)
      go_roundw
      case rel => exact ⟨j + 1, HLT.out, by go_num, .inr (by rw [HSN.out]; simpa [Lib.byteCells, Lib.strCells] using hB3), (HBR.out.alloc HBR.out.size _).trans hb3⟩
      case measure => have := HLT.out; simp [intOf]; omega
    · obtain rfl : j = n := by omega
      have htk : l.take j = l := List.take_of_length_le (by rw [← HN.out]; exact Nat.le_refl _)
      have HBF : Hid (Lib.IsBuilderF 125 5 w1.heap.size w1.heap.size (Lib.byteCells (catK l)) wr) := Lib.hid (by have := HB.out; rwa [htk] at this)
      have HJ0 : Hid (CgJ w w1 b w1.heap.size x (catK l) J (fun _ => false) wr.drew) := Lib.hid ⟨(HB1.out.trans (HBR.out.mono HB1.out.size)).drew, by have := (HC1.out 0 x HX.out).kept (w' := wr.drew) (HBR.out.block b HBL.out.1); simpa using this, fun _ => HBF.out.elim (fun x => .inl x.drew) (fun x => .inr x.drew), HBR.out.drew.size, fun _ => HK1.out.below HBR.out.drew HK1.out.lt, fun h => by cases h⟩
      have HJE : Hid (J = ⟨(catK l).toArray⟩) := Lib.hid HJ.out
      obtain ⟨gen, tag, num, refs, next, B, at_⟩ := x
      clear htk HB hj
      go_wp2_with fail
      refine wp_region_known 16 cgD (cgV b j c gen tag refs J) (CgJ w w1 b w1.heap.size ⟨gen, tag, num, refs, next, B, at_⟩ (catK l) J) (by kernel_rfl) (by kernel_rfl) rfl (by kernel_rfl) (by kernel_rfl) HJ0.out ?hops ?hrest
      case hops =>
        intro o ho L y w' hc hF hLo hJ hw hv
        have HJJ := Lib.hid hJ
        obtain ⟨e0, e1, e2, e3, e4, e5, e6⟩ := hJ.cells
        simp only at e0 e1 e2 e3 e4 e5 e6
        clear hJ
        rcases (show o = 0 ∨ o = 1 ∨ o = 2 ∨ o = 3 ∨ o = 4 ∨ o = 5 ∨ o = 6 ∨ o = 7 ∨ o = 8 ∨ o = 9 ∨ o = 10 ∨ o = 11 ∨ o = 12 ∨ o = 13 ∨ o = 14 ∨ o = 15 by omega) with rfl | rfl | rfl | rfl | rfl | rfl | rfl | rfl | rfl | rfl | rfl | rfl | rfl | rfl | rfl | rfl
        · have t0 : y.tmps[6]?.getD undef = .slice (some ⟨b, 0, none⟩) j c := by rw [hF 6 (cgD_far (by omega))]; rfl
          clear hw hv hF hc
          refine wpOp_value (v := .slice (some ⟨b, 0, none⟩) j c) (w' := w') rfl rfl ?_ ⟨rfl, ?_⟩
          · go_simp
          · have k := HJJ.out
            exact ⟨k.below, k.cells, fun h => k.bl (by simpa using h), k.gb, fun h => k.ahead (by simpa using h), fun h => k.behind (by simpa using h)⟩
        · have t0 : y.tmps[31]?.getD undef = .slice (some ⟨b, 0, none⟩) j c := hv 0 (of_decide_eq_true (by kernel_rfl)) (by omega) 31 rfl
          clear hw hv hF hc
          refine wpOp_value (v := .pointer (some ⟨b, 0, none⟩)) (w' := w') rfl rfl ?_ ⟨rfl, ?_⟩
          · go_simp
          · have k := HJJ.out
            exact ⟨k.below, k.cells, fun h => k.bl (by simpa using h), k.gb, fun h => k.ahead (by simpa using h), fun h => k.behind (by simpa using h)⟩
        · have t0 : y.tmps[32]?.getD undef = .pointer (some ⟨b, 0, none⟩) := hv 1 (of_decide_eq_true (by kernel_rfl)) (by omega) 32 rfl
          clear hw hv hF hc
          refine wpOp_value (v := .pointer (some ⟨b, 0, none⟩)) (w' := w') rfl rfl ?_ ⟨rfl, ?_⟩
          · go_simp
          · have k := HJJ.out
            exact ⟨k.below, k.cells, fun h => k.bl (by simpa using h), k.gb, fun h => k.ahead (by simpa using h), fun h => k.behind (by simpa using h)⟩
        · have t0 : y.tmps[33]?.getD undef = .pointer (some ⟨b, 0, none⟩) := hv 2 (of_decide_eq_true (by kernel_rfl)) (by omega) 33 rfl
          clear hw hv hF hc
          refine wpOp_value (v := .int .i64 gen) (w' := w') rfl rfl ?_ ⟨rfl, ?_⟩
          · go_simp
          · have k := HJJ.out
            exact ⟨k.below, k.cells, fun h => k.bl (by simpa using h), k.gb, fun h => k.ahead (by simpa using h), fun h => k.behind (by simpa using h)⟩
        · have t0 : y.tmps[6]?.getD undef = .slice (some ⟨b, 0, none⟩) j c := by rw [hF 6 (cgD_far (by omega))]; rfl
          clear hw hv hF hc
          refine wpOp_value (v := .slice (some ⟨b, 0, none⟩) j c) (w' := w') rfl rfl ?_ ⟨rfl, ?_⟩
          · go_simp
          · have k := HJJ.out
            exact ⟨k.below, k.cells, fun h => k.bl (by simpa using h), k.gb, fun h => k.ahead (by simpa using h), fun h => k.behind (by simpa using h)⟩
        · have t0 : y.tmps[35]?.getD undef = .slice (some ⟨b, 0, none⟩) j c := hv 4 (of_decide_eq_true (by kernel_rfl)) (by omega) 35 rfl
          clear hw hv hF hc
          refine wpOp_value (v := .pointer (some ⟨b, 0, none⟩)) (w' := w') rfl rfl ?_ ⟨rfl, ?_⟩
          · go_simp
          · have k := HJJ.out
            exact ⟨k.below, k.cells, fun h => k.bl (by simpa using h), k.gb, fun h => k.ahead (by simpa using h), fun h => k.behind (by simpa using h)⟩
        · have t0 : y.tmps[36]?.getD undef = .pointer (some ⟨b, 0, none⟩) := hv 5 (of_decide_eq_true (by kernel_rfl)) (by omega) 36 rfl
          clear hw hv hF hc
          refine wpOp_value (v := .pointer (some ⟨b, 1, none⟩)) (w' := w') rfl rfl ?_ ⟨rfl, ?_⟩
          · go_simp
          · have k := HJJ.out
            exact ⟨k.below, k.cells, fun h => k.bl (by simpa using h), k.gb, fun h => k.ahead (by simpa using h), fun h => k.behind (by simpa using h)⟩
        · have t0 : y.tmps[37]?.getD undef = .pointer (some ⟨b, 1, none⟩) := hv 6 (of_decide_eq_true (by kernel_rfl)) (by omega) 37 rfl
          clear hw hv hF hc
          refine wpOp_value (v := .int .i64 tag) (w' := w') rfl rfl ?_ ⟨rfl, ?_⟩
          · go_simp
          · have k := HJJ.out
            exact ⟨k.below, k.cells, fun h => k.bl (by simpa using h), k.gb, fun h => k.ahead (by simpa using h), fun h => k.behind (by simpa using h)⟩
        · have t0 : y.tmps[6]?.getD undef = .slice (some ⟨b, 0, none⟩) j c := by rw [hF 6 (cgD_far (by omega))]; rfl
          clear hw hv hF hc
          refine wpOp_value (v := .slice (some ⟨b, 0, none⟩) j c) (w' := w') rfl rfl ?_ ⟨rfl, ?_⟩
          · go_simp
          · have k := HJJ.out
            exact ⟨k.below, k.cells, fun h => k.bl (by simpa using h), k.gb, fun h => k.ahead (by simpa using h), fun h => k.behind (by simpa using h)⟩
        · have t0 : y.tmps[39]?.getD undef = .slice (some ⟨b, 0, none⟩) j c := hv 8 (of_decide_eq_true (by kernel_rfl)) (by omega) 39 rfl
          clear hw hv hF hc
          refine wpOp_value (v := .pointer (some ⟨b, 0, none⟩)) (w' := w') rfl rfl ?_ ⟨rfl, ?_⟩
          · go_simp
          · have k := HJJ.out
            exact ⟨k.below, k.cells, fun h => k.bl (by simpa using h), k.gb, fun h => k.ahead (by simpa using h), fun h => k.behind (by simpa using h)⟩
        · have t0 : y.tmps[40]?.getD undef = .pointer (some ⟨b, 0, none⟩) := hv 9 (of_decide_eq_true (by kernel_rfl)) (by omega) 40 rfl
          clear hw hv hF hc
          refine wpOp_value (v := .pointer (some ⟨b, 3, none⟩)) (w' := w') rfl rfl ?_ ⟨rfl, ?_⟩
          · go_simp
          · have k := HJJ.out
            exact ⟨k.below, k.cells, fun h => k.bl (by simpa using h), k.gb, fun h => k.ahead (by simpa using h), fun h => k.behind (by simpa using h)⟩
        · have t0 : y.tmps[41]?.getD undef = .pointer (some ⟨b, 3, none⟩) := hv 10 (of_decide_eq_true (by kernel_rfl)) (by omega) 41 rfl
          clear hw hv hF hc
          refine wpOp_value (v := .int .i64 refs) (w' := w') rfl rfl ?_ ⟨rfl, ?_⟩
          · go_simp
          · have k := HJJ.out
            exact ⟨k.below, k.cells, fun h => k.bl (by simpa using h), k.gb, fun h => k.ahead (by simpa using h), fun h => k.behind (by simpa using h)⟩
        · have t0 : y.tmps[8]?.getD undef = .pointer (some ⟨w1.heap.size, 0, none⟩) := by rw [hF 8 (cgD_far (by omega))]; rfl
          have h14 : L 14 = false := by
            cases h : L 14 with
            | false => rfl
            | true => exact absurd (hc 13 (hc 14 h 13 (of_decide_eq_true (by kernel_rfl))) 12 (of_decide_eq_true (by kernel_rfl))) (by rw [hLo]; simp)
          clear hw hv hF hc
          have k := HJJ.out
          refine wpOp_call (f := 80) (args := #[.pointer (some ⟨w1.heap.size, 0, none⟩)]) rfl rfl (by go_simp) ((sb_text w1.heap.size w1.heap.size (catK l) w' (k.bl hLo) k.gb).mono ?_)
          rintro e w4 ⟨rfl, _, hb4, _⟩
          refine ⟨_, rfl, by rw [HJE.out]; rfl, ?_⟩
          have hsz := HB1.out.size
          exact ⟨k.below.trans (hb4.mono hsz), k.cells.kept (hb4.block b HBL.out.1), fun h => by simp at h, Nat.le_trans k.gb hb4.size, fun _ => (k.ahead h14).below hb4 HK1.out.lt, fun h => by simp [h14] at h⟩
        · have t0 : y.tmps[34]?.getD undef = .int .i64 gen := hv 3 (of_decide_eq_true (by kernel_rfl)) (by omega) 34 rfl
          have t1 : y.tmps[38]?.getD undef = .int .i64 tag := hv 7 (of_decide_eq_true (by kernel_rfl)) (by omega) 38 rfl
          have t2 : y.tmps[42]?.getD undef = .int .i64 refs := hv 11 (of_decide_eq_true (by kernel_rfl)) (by omega) 42 rfl
          have t3 : y.tmps[43]?.getD undef = .string J := hv 12 (of_decide_eq_true (by kernel_rfl)) (by omega) 43 rfl
          clear hw hv hF hc
          refine wpOp_value (v := .agg #[.int .i64 gen, .int .i64 tag, .int .i64 refs, .string J]) (w' := w') rfl rfl ?_ ⟨rfl, ?_⟩
          · go_simp
          · have k := HJJ.out
            exact ⟨k.below, k.cells, fun h => k.bl (by simpa using h), k.gb, fun h => k.ahead (by simpa using h), fun h => k.behind (by simpa using h)⟩
        · have t0 : y.tmps[4]?.getD undef = .pointer (some ⟨w.heap.size, 0, none⟩) := by rw [hF 4 (cgD_far (by omega))]; rfl
          have t1 : y.tmps[44]?.getD undef = .agg #[.int .i64 gen, .int .i64 tag, .int .i64 refs, .string J] := hv 13 (of_decide_eq_true (by kernel_rfl)) (by omega) 44 rfl
          have l12 : L 12 = true := hc 13 (hw 13 (of_decide_eq_true (by kernel_rfl))) 12 (of_decide_eq_true (by kernel_rfl))
          clear hw hv hF hc
          have k := HJJ.out
          have b1 := k.ahead hLo
          have k0 := b1.cell 0
          have k1 := b1.cell 1
          have k2 := b1.cell 2
          have k3 := b1.cell 3
          have f0 := b1.frozen 0
          have f1 := b1.frozen 1
          have f2 := b1.frozen 2
          have f3 := b1.frozen 3
          simp at k0 k1 k2 k3
          have b2 := (((b1.put 0 (.int .i64 gen)).put 1 (.int .i64 tag)).put 2 (.int .i64 refs)).put 3 (.string J)
          have hbw := (((k.below.setCell (p := ⟨w.heap.size, 0, none⟩) (Nat.le_refl _) (.int .i64 gen)).setCell (p := ⟨w.heap.size, 1, none⟩) (Nat.le_refl _) (.int .i64 tag)).setCell (p := ⟨w.heap.size, 2, none⟩) (Nat.le_refl _) (.int .i64 refs)).setCell (p := ⟨w.heap.size, 3, none⟩) (Nat.le_refl _) (.string J)
          have hne : b ≠ w.heap.size := by have := HBL.out.2; omega
          refine wpOp_skip (w' := (((w'.setCell ⟨w.heap.size, 0, none⟩ (.int .i64 gen)).setCell ⟨w.heap.size, 1, none⟩ (.int .i64 tag)).setCell ⟨w.heap.size, 2, none⟩ (.int .i64 refs)).setCell ⟨w.heap.size, 3, none⟩ (.string J)) rfl rfl ?_ ⟨rfl, ?_⟩
          · go_simp
          · refine ⟨hbw, k.cells.kept ?_, fun h => by simp [l12] at h, by have := k.gb; simpa [World.setCell] using this, fun h => by simp at h, fun _ => b2⟩
            rw [Below.heap_setCell _ _ _ _ hne, Below.heap_setCell _ _ _ _ hne, Below.heap_setCell _ _ _ _ hne, Below.heap_setCell _ _ _ _ hne]
        · clear hw hv hF hc
          refine wpOp_value (v := .int .i64 0) (w' := w') rfl rfl ?_ ⟨rfl, ?_⟩
          · go_simp
          · have k := HJJ.out
            exact ⟨k.below, k.cells, fun h => k.bl (by simpa using h), k.gb, fun h => k.ahead (by simpa using h), fun h => k.behind (by simpa using h)⟩
      case hrest =>
        intro L w' hL hJ
        have HJJ := Lib.hid hJ
        have HBK := Lib.hid (hJ.behind (hL 14 (by omega)))
        clear hL hJ
        simp only [putSlots, List.range, List.range.loop, List.foldl, cgD, List.getD_cons_zero, List.getD_cons_succ, cgV, List.setIfInBounds_toArray, List.set_cons_succ, List.set_cons_zero]
        go_wp2_with fail
        refine ret_cell2k rfl rfl (run_var_part (off := 0) HBK.out (fun j v h => by rw [Nat.zero_add]; exact h) (fun w => by kernel_rfl) (fun w => by kernel_rfl)) rfl rfl ?_
        exact ⟨by rw [HE.out]; rfl, HJJ.out.below⟩
end Go.Proofs.YtnamokngiebicaaGreatDoor
