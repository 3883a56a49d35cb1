/-
  Package head's Read of what Lay lays. No statement is proved here.
-/
import Derived.Test.YtnpmeolibdjgpaaGreatDoorHeadParse
import Derived.Test.YtnpmeolibdjgpaaGreatDoorHeadLib
import Derived.Test.YtnpmeolibdjgpaaGreatDoorCrcOpen
namespace Go.Proofs.YtnpmeolibdjgpaaGreatDoor
open Go.RowKit

/-- A struct in a cell of its own, and a number. -/
theorem hret_cell2 {P : Program} {fn : Func} {R : Ending → World → Prop} {a : Act} {w : World} {q r : Tmp} {ty : TypeId} {ad : Addr} {v u : Value} (h : fn.results = #[.cell q ty, .tmp r]) (hp : a.tmps.getD q undef = .pointer (some ad))
    (hl : (loadVar ty ad).run P w = .ok v w) (hu : a.tmps.getD r undef = u) (hd : a.defers = []) (hR : R (.returned (.tuple #[v, u])) w) : bodyPost P fn R .ret a w := by
  refine bodyPost_ret (v := .tuple #[v, u]) ?_ hd hR
  simp only [results, h]
  have hp' : a.tmps[q]?.getD undef = .pointer (some ad) := by simpa using hp
  have hu' : a.tmps[r]?.getD undef = u := by simpa using hu
  simp [hp', hu', asAddr, hl]
theorem dropWhile_keeps {l : List UInt8} (p : UInt8 → Bool) (x : UInt8) (hx : x ∈ l) (hp : p x = false) : x ∈ l.dropWhile p := by
  induction l with
  | nil => cases hx
  | cons y r ih =>
    rw [List.dropWhile_cons]
    split
    · rename_i hy
      rcases List.mem_cons.1 hx with rfl | hx
      · rw [hp] at hy; cases hy
      · exact ih hx
    · exact hx
theorem trim_keeps {l : List UInt8} (hx : (7 : UInt8) ∈ l) : (Lib.trimB l 0).isEmpty = false := by
  unfold Lib.trimB Lib.trimLeftB Lib.trimRightB
  have h1 : (7 : UInt8) ∈ (l.reverse.dropWhile (· == 0)).reverse := by
    rw [List.mem_reverse]
    exact dropWhile_keeps _ 7 (by rw [List.mem_reverse]; exact hx) (by decide)
  have h2 := dropWhile_keeps (· == 0) 7 h1 (by decide)
  cases h : ((l.reverse.dropWhile (· == 0)).reverse.dropWhile (· == 0)) with
  | nil => rw [h] at h2; cases h2
  | cons _ _ => rfl

set_option maxRecDepth 100000 in
set_option maxHeartbeats 4000000 in
theorem hread_laid (h : HD) (hvb : h.validB = true) (w : World) :
    Calls Tryz.prog 15 #[.string (bs h.text)] w fun e w' => ∃ A c, e = .returned (.tuple #[h.val A c, .int .i64 0]) ∧ h.At w' A c ∧ Below w.heap.size w w' := by
  have hv := HD.valid_of hvb
  have hlay : ∀ (A : Option Addr) (c : Nat) (W : World), h.At W A c → Calls Tryz.prog 11 #[h.val A c] W fun e w' => e = .returned (.tuple #[.string (bs h.text), .int .i64 0]) ∧ Below W.heap.size W w' := fun A c W ha => by
    have := hlay_any h A c W ha
    rwa [if_pos hvb] at this
  have hparse := hparse_any h hv
  obtain ⟨X, hX⟩ : ∃ X, X = bs h.text := ⟨_, rfl⟩
  have hXs : X.size = 256 := by rw [hX, bs_size, hv.text_len]
  obtain ⟨Y, hY⟩ : ∃ Y, Y = bs (body 256 h.bytes) := ⟨_, rfl⟩
  have HOPEN : Hid (∀ W, Calls Tryz.prog 58 #[.string X] W fun e w' => e = .returned (.tuple #[.string Y, .int .i64 0]) ∧ Below W.heap.size W w') := Lib.hid (fun W => by
    have h1 := open_any X W (by omega)
    have e : openV X.data.toList = .tuple #[.string Y, .int .i64 0] := by rw [hX, bs_list]; unfold openV; rw [HD.opened, hY]; rfl
    rwa [e] at h1)
  obtain ⟨Z, hZ⟩ : ∃ Z : ByteArray, Z = ⟨(Lib.trimB X.data.toList 0).toArray⟩ := ⟨_, rfl⟩
  have hZe : Z.toList.isEmpty = false := by
    rw [hZ, Lib.toList_data]
    show (Lib.trimB X.data.toList 0).isEmpty = false
    apply trim_keeps
    rw [hX, bs_list]
    obtain ⟨r, hr⟩ := h.text_first
    rw [hr]
    simp
  have HTRIM : Hid (∀ W, Calls Tryz.prog 57 #[.string X, .string ⟨#[0]⟩] W fun e w' => e = .returned (.string Z) ∧ Below W.heap.size W w') := Lib.hid (fun W => by
    refine (h_strings_Trim_one X 0 (by decide) W (by omega)).mono ?_
    rintro e w' ⟨rfl, hw | hw⟩
    · exact ⟨by rw [hZ], hw ▸ Below.refl _ _⟩
    · exact ⟨by rw [hZ], by rw [hw]; exact (Below.refl _ _).drew⟩)
  rw [← hX] at hlay ⊢
  rw [← hY] at hparse
  have HLAY := Lib.hid hlay
  have HPARSE := Lib.hid hparse
  have hXI : (X.size : Int) = 256 := by omega
  clear hvb hv hlay hparse hX hXs hY hZ
  go_enter Tryz.func15, Tryz.ntmps15
  go_wp2_with fail
  refine (HTRIM.out _).mono ?_
  rintro e w1 ⟨rfl, hb1⟩
  have HR1 : Hid (Blk w1 w.heap.size 29 #[.int .i64 0, .bool false, .slice none 0 0]) := Lib.hid ((Blk.new w _ _).below hb1 (by simp))
  have HB1 : Hid (Below w.heap.size w w1) := Lib.hid (((Below.refl _ _).alloc (Nat.le_refl _) _).trans (hb1.mono (by simp)))
  clear hb1
  go_wp2_with fail
  refine (HOPEN.out _).mono ?_
  rintro e w2 ⟨rfl, hb2⟩
  have HR2 : Hid (Blk w2 w.heap.size 29 #[.int .i64 0, .bool false, .slice none 0 0]) := Lib.hid (HR1.out.below hb2 HR1.out.lt)
  have HB2 : Hid (Below w.heap.size w w2) := Lib.hid (HB1.out.trans (hb2.mono HB1.out.size))
  clear hb2 hZe
  go_wp2_with fail
  refine (HPARSE.out _).mono ?_
  rintro e w3 ⟨A, c, rfl, ha, hAb, hb3⟩
  have HAB : Hid (∀ b off, A = some ⟨b, off, none⟩ → w.heap.size < b) := Lib.hid (fun b off e => by have := hAb b off e; have := HR2.out.lt; omega)
  have HR3 : Hid (Blk w3 w.heap.size 29 #[.int .i64 0, .bool false, .slice none 0 0]) := Lib.hid (HR2.out.below hb3 HR2.out.lt)
  have HB3 : Hid (Below w.heap.size w w3) := Lib.hid (HB2.out.trans (hb3.mono HB2.out.size))
  have HAT := Lib.hid ha
  clear ha hAb hb3
  have HL := Lib.hid (fun W => HLAY.out A c W)
  obtain ⟨seq, full, ts⟩ := h
  unfold HD.val at HL ⊢
  simp only at HL ⊢
  obtain ⟨n, hn⟩ : ∃ n, n = ts.length := ⟨_, rfl⟩
  rw [← hn] at HL ⊢
  have HN := Lib.hid hn
  clear hn HLAY HPARSE
  go_wp2_with fail
  have hal : (HD.mk seq full ts).At (w3.alloc (.cells #[.int .i64 seq, .bool full, .slice A n c] 29)) A c := HAT.out.below ((Below.refl _ _).alloc (Nat.le_refl _) _)
  refine (HL.out _ hal).mono ?_
  rintro e w4 ⟨rfl, hb4⟩
  have bh : Blk w4 w3.heap.size 29 #[.int .i64 seq, .bool full, .slice A n c] := (Blk.new w3 _ _).below hb4 (by simp)
  have br : Blk w4 w.heap.size 29 #[.int .i64 0, .bool false, .slice none 0 0] := HR3.out.below (((Below.refl _ _).alloc (Nat.le_refl _) _).trans (hb4.mono (by simp))) HR3.out.lt
  have HBR := Lib.hid br
  have HB4 : Hid (Below w.heap.size w w4) := Lib.hid ((HB3.out.alloc HB3.out.size _).trans (hb4.mono (by have := HB3.out.size; simp; omega)))
  have HA4 := Lib.hid (hal.below hb4).lie
  have c0 := bh.cell 0
  have c1 := bh.cell 1
  have c2 := bh.cell 2
  have r0 := br.cell 0
  have r1 := br.cell 1
  have r2 := br.cell 2
  have f0 := br.frozen 0
  have f1 := br.frozen 1
  have f2 := br.frozen 2
  simp at c0 c1 c2 r0 r1 r2
  clear hb4 hal bh br
  go_wp2_with fail
  have b3 := ((HBR.out.put 0 (.int .i64 seq)).put 1 (.bool full)).put 2 (.slice A n c)
  refine hret_cell2 rfl rfl (head_var b3) rfl rfl ?_
  refine ⟨A, c, by rw [HN.out]; rfl, ⟨fun hp => ?_, HAT.out.few⟩, ((HB4.out.setCell (Nat.le_refl _) _).setCell (Nat.le_refl _) _).setCell (Nat.le_refl _) _⟩
  obtain ⟨b, off, e, hbl, hc⟩ := HA4.out hp
  have hne : b ≠ w.heap.size := fun eb => by have := HAB.out b off e; omega
  refine ⟨b, off, e, by simpa [World.setCell] using hbl, fun i x hx => ?_⟩
  rw [World.cell?_of_block (w := w4) ((Below.heap_setCell _ _ _ _ (fun e => hne e)).trans ((Below.heap_setCell _ _ _ _ (fun e => hne e)).trans (Below.heap_setCell _ _ _ _ (fun e => hne e))))]
  exact hc i x hx
end Go.Proofs.YtnpmeolibdjgpaaGreatDoor
