/-
  GearTells, walked at every input. No statement is proved here.
-/
import Derived.Test.YtgggeikfajhfdaaGearAlive
import Derived.Test.YtgggeikfajhfdaaByteRow
import Derived.Test.YtgggeikfajhfdaaBookTexts
import Derived.Test.YtgggeikfajhfdaaViews
namespace Go.Proofs.Ytgggeikfajhfdaa
open Go.RowKit

theorem byte_info5 : (Try.prog.info? 5).map (fun i => (i.zero, i.size, i.bytes)) = some (some (.int .u8 0), 1, 1) := by kernel_rfl
theorem byts_of_cells {w : World} {g : Nat} {l : List UInt8} {x : UInt8} (hg : g < w.heap.size) (hc : ∀ j u, ((l.map fun b => Value.int .u8 (b.toNat : Int)) ++ [Value.int .u8 (x.toNat : Int)])[j]? = some u → w.cell? ⟨g, j, none⟩ = some u) :
    Byts w w.heap.size (some ⟨g, 0, none⟩) l ∧ w.cell? ⟨g, l.length, none⟩ = some (.int .u8 (x.toNat : Int)) := by
  refine ⟨fun _ => ⟨g, 0, rfl, hg, fun j y hy => ?_⟩, hc _ _ ?_⟩
  · rw [Nat.zero_add]
    refine hc j _ ?_
    have hj : j < l.length := by
      rcases Nat.lt_or_ge j l.length with h | h
      · exact h
      · rw [List.getElem?_eq_none h] at hy; cases hy
    rw [List.getElem?_append_left (by rw [List.length_map]; exact hj), List.getElem?_map, hy]
    rfl
  · rw [List.getElem?_append_right (by rw [List.length_map]; exact Nat.le_refl _), List.length_map, Nat.sub_self]
    rfl
/-- A row of bytes as a text. -/
theorem byts_text {w : World} {g cap : Nat} {S : ByteArray} (h : Byts w w.heap.size (some ⟨g, 0, none⟩) S.data.toList) :
    (convert 28 9 (.slice (some ⟨g, 0, none⟩) S.size cap)).run Try.prog w = .ok (.string S) w := by
  have hcv := run_convert_bytes_back (P := Try.prog) w 28 9 5 ⟨g, 0, none⟩ cap S.data.toList Try.underlying28 Try.underlying5 Try.underlying9
    (fun i hi => by
      obtain ⟨b, off, e, _, hc⟩ := h (by omega)
      injection e with e
      injection e with e1 e2
      subst e1 e2
      rw [Go.WideShapes.add_plain]
      exact hc i _ (List.getElem?_eq_getElem hi))
  rw [← Lib.size_eq] at hcv
  exact hcv

set_option maxRecDepth 100000 in
set_option maxHeartbeats 4000000 in
theorem gtells_any (h : Nat) (b : UInt8) (A : Option Addr) (m c : Nat) (xs : List ByteArray) (w : World) (hh : h < 18446744073709551616) (hx : TextsIn w A m c xs) :
    Calls Try.prog 3 #[.int .u64 (h : Int), .int .u8 (b.toNat : Int), .slice A m c] w fun e w' => e = .returned (.bool true) ∧ Below w.heap.size w w' := by
  have HIN := Lib.hid hx
  have HH := Lib.hid hh
  clear hx hh
  go_enter Try.func3, Try.ntmps3
  go_wp2_with fail
  refine (short_any 20 2000 A m c xs _ HIN.out.len HIN.out.lie HIN.out.short HIN.out.few (by omega) (by omega) (by omega) (by omega)).mono ?_
  rintro e w1 ⟨⟨r, rfl, hr⟩, hb1⟩
  cases r with
  | false =>
    clear hr
    go_wp2_with fail
    refine (alive5_any _).mono ?_
    rintro e w2 ⟨rfl, hb2⟩
    have hb2' := hb1.trans (hb2.mono hb1.size)
    clear hb1 hb2
    go_wp2_with fail
    go_ret
    exact ⟨rfl, hb2'⟩
  | true =>
    have HR := Lib.hid (hr rfl)
    clear hr
    go_wp2_with fail
    refine (alive5_any _).mono ?_
    rintro e w2 ⟨rfl, hb2⟩
    have hb2' : Below w.heap.size w w2 := hb1.trans (hb2.mono hb1.size)
    clear hb1 hb2
    have hm20 : m ≤ 20 := by have := HR.out.1; rw [HIN.out.len] at this; omega
    have HSUM : Hid ((cats xs).length ≤ 2000) := Lib.hid (by have := HR.out.2; omega)
    obtain ⟨J, hJ⟩ : ∃ J, J = joined xs := ⟨_, rfl⟩
    have hjs : J.size ≤ 2000 := by rw [hJ, joined_size]; exact HSUM.out
    have hjl : J.data.toList = cats xs := by rw [hJ]; rfl
    obtain ⟨t, ht⟩ : ∃ t, t = groll h J.data.toList := ⟨_, rfl⟩
    obtain ⟨u, hu⟩ : ∃ u, u = groll 0 (cats xs) := ⟨_, rfl⟩
    have HO : Hid (∀ (w4 : World) (g cap : Nat), Txts w4 w4.heap.size (some ⟨g, 0, none⟩) xs → Calls Try.prog 14 #[.slice (some ⟨g, 0, none⟩) m cap] w4 fun e w' => e = .returned (.int .u64 (u : Int)) ∧ Below w4.heap.size w4 w') :=
      Lib.hid (fun w4 g cap h => by
        rw [hu]
        refine of_any _ m cap xs w4 HIN.out.len h (by omega) (fun x hx => ?_)
        obtain ⟨j, hj, rfl⟩ := List.getElem_of_mem hx
        have := cats_len (List.getElem?_eq_getElem hj)
        have := HSUM.out
        omega)
    have HRL : Hid (∀ (w4 : World) (g cap : Nat), Byts w4 w4.heap.size (some ⟨g, 0, none⟩) J.data.toList → Calls Try.prog 12 #[.int .u64 (h : Int), .slice (some ⟨g, 0, none⟩) J.size cap] w4 fun e w' => e = .returned (.int .u64 (t : Int)) ∧ w4 = w') :=
      Lib.hid (fun w4 g cap hB => by rw [ht]; exact roll_any h _ J.size cap _ w4 (Lib.size_eq J).symm hB (by omega) HH.out)
    have HR1 : Hid (∀ w4, Calls Try.prog 13 #[.int .u64 (h : Int), .string J] w4 fun e w' => e = .returned (.int .u64 (t : Int)) ∧ w4 = w') := Lib.hid (fun w4 => by rw [ht]; exact ref_roll h J w4 (by omega) HH.out)
    have HR0 : Hid (∀ w4, Calls Try.prog 13 #[.int .u64 0, .string J] w4 fun e w' => e = .returned (.int .u64 (u : Int)) ∧ w4 = w') := Lib.hid (fun w4 => by
      rw [hu, ← hjl]
      exact ref_roll 0 J w4 (by omega) (by decide))
    have HJ := Lib.hid hJ
    clear hJ hjl ht hu
    have HX1 := Lib.hid (show Txts w2 w.heap.size A xs from HIN.out.lie.below hb2')
    go_wp2_with fail
    refine (lent_any A m c xs _ HIN.out.len (HX1.out.more hb2'.size) (by omega) HIN.out.nil_).mono ?_
    rintro e w3 ⟨g, cap, rfl, hL3, hb3⟩
    have hcap : m ≤ cap := by have := hL3.2.2.1; rw [HIN.out.len] at this; omega
    have hb3' : Below w.heap.size w w3 := hb2'.trans (hb3.mono hb2'.size)
    have HL3 := Lib.hid hL3
    clear hb3 hb2' hL3
    go_wp2_with fail
    refine (join_any A m c xs _ HIN.out.len ((HIN.out.lie.below hb3').more hb3'.size) (by omega) (by have := HSUM.out; omega)).mono ?_
    rintro e w4 ⟨rfl, rfl⟩
    rw [← HJ.out]
    obtain ⟨W, bcap, cur, fz, hcv, hbW, hgW, hfz, hcs, hge, hcm, htk⟩ := conv_row w3 J (by omega)
    obtain ⟨i0, hi, hz0, hz1, hz2⟩ := info_parts byte_info5
    have HGW := Lib.hid hgW
    have HTK := Lib.hid htk
    have HBW := Lib.hid hbW
    have HB3 := Lib.hid hb3'
    have HFZ := Lib.hid hfz
    have HCS := Lib.hid hcs
    clear hgW htk hbW hfz hcs hb3'
    go_wp2_with (at_builtin; refine wpList_append_marked _ rfl (.tmp 23) (.tmp 24) 28 5 rfl i0 (.int .u8 0) Try.underlying28 hi hz0 hz1 hz2 w3.heap.size J.size bcap rfl cur fz ?hg HFZ.out HCS.out hge hcm _ HTK.out ⟨W.heap.size, 0, none⟩ 1 1 rfl [.int .u8 77] rfl ?c1 ?c2 (by omega) w3.heap.size (Nat.le_refl _) ?hB ?_)
    case hg => exact (Below.heap_alloc W _ _ (by have := HBW.out.size; have := (Array.getElem?_eq_some_iff.1 HGW.out).1; omega)).trans HGW.out
    case c1 =>
      intro a u ha
      match a, ha with
      | 0, ha => simp at ha; subst ha; simp [Addr.add]
    case c2 => intro u hu; simp at hu; subst hu; rfl
    case hB => have := HBW.out.size; simp; omega
    intro g2 cap2 w4 hc2 hcm2 hg2 hg2l hcells hbel
    have HBY := Lib.hid (byts_of_cells (x := 77) hg2l hcells)
    have hb4 : Below w.heap.size w w4 := (HB3.out.trans (HBW.out.mono HB3.out.size)).trans (((Below.refl _ _).alloc (Nat.le_refl _) _).mono (Nat.le_trans HB3.out.size HBW.out.size) |>.trans (hbel _ HB3.out.size (by have := HB3.out.size; have := HBW.out.size; simp; omega)))
    have hb34 : Below w3.heap.size w3 w4 := HBW.out.trans (((Below.refl _ _).alloc (Nat.le_refl _) _).mono HBW.out.size |>.trans (hbel _ (Nat.le_refl _) (by have := HBW.out.size; simp; omega)))
    have HL4 := Lib.hid (HL3.out.below hb34)
    have HB4 := Lib.hid hb4
    clear hcells hbel hb4 hb34 hcv hge hcm
    have hg2w : g2 < w4.heap.size := hg2l
    go_wp2_with fail
    refine (value_any b _).mono ?_
    rintro e w5 ⟨rfl, rfl⟩
    go_wp2_with fail
    refine (ref_gear b _).mono ?_
    rintro e w5 ⟨rfl, rfl⟩
    go_wp2_with fail
    refine (HRL.out _ _ _ HBY.out.1).mono ?_
    rintro e w5 ⟨rfl, rfl⟩
    go_wp2_with fail
    refine (HR1.out _).mono ?_
    rintro e w5 ⟨rfl, rfl⟩
    go_wp2_with fail
    refine (HO.out _ _ _ HL4.out.txts).mono ?_
    rintro e w5 ⟨rfl, hb5⟩
    have HB5 := Lib.hid (HB4.out.trans (hb5.mono HB4.out.size))
    have HL5 := Lib.hid (HL4.out.below hb5)
    have HBY5 := Lib.hid (show Byts w5 w5.heap.size (some ⟨g2, 0, none⟩) J.data.toList from (HBY.out.1.below hb5).more hb5.size)
    have hlast : w5.cell? ⟨g2, J.size, none⟩ = some (.int .u8 77) := by
      have h77 := HBY.out.2
      rw [← Lib.size_eq] at h77
      exact (hb5.cell (p := ⟨g2, J.size, none⟩) hg2w).trans h77
    have HLA := Lib.hid hlast
    clear hb5 hlast hg2w hg2l
    go_wp2_with fail
    refine (HR0.out _).mono ?_
    rintro e w6 ⟨rfl, rfl⟩
    go_wp2_with fail
    refine (stays_any g cap A m c xs _ _ HIN.out.len HL5.out ((HIN.out.lie.below HB5.out).more HB5.out.size) (by omega)).mono ?_
    rintro e w6 ⟨rfl, k, rfl⟩
    have hcb := byts_text (w := w5.drewN k) (cap := cap2) HBY5.out
    have hla : (w5.drewN k).cell? ⟨g2, J.size, none⟩ = some (.int .u8 77) := HLA.out
    have hb6 : Below w.heap.size w (w5.drewN k) := ⟨HB5.out.os, HB5.out.tape, HB5.out.output, HB5.out.size, HB5.out.block⟩
    have HB6 := Lib.hid hb6
    clear hb6
    go_wp2_with fail
    go_ret
    exact ⟨by first | rfl | simp, HB6.out⟩
end Go.Proofs.Ytgggeikfajhfdaa
