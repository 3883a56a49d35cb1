/-
  The law's own seen: all that a Desk tells, as one text. No statement is proved here.
-/
import Derived.Test.YtolbnkpakjdnnaaGreatDoorDeskSame
import Derived.Lib.AppendStr
namespace Go.Proofs.YtolbnkpakjdnnaaGreatDoor
open Go.RowKit

def bytesOf (l : List Int) : List UInt8 := l.map fun z => (z % 256).toNat.toUInt8
def homesL (K : KD) (h : List ByteArray) (j : Nat) : List UInt8 := (List.range j).flatMap fun t => (homeG K h t).data.toList
def seenL (K : KD) (h : List ByteArray) : List UInt8 := homesL K h 69 ++ bytesOf (pendT K) ++ [255] ++ bytesOf K.H
theorem homesL_snoc (K : KD) (h : List ByteArray) (j : Nat) : homesL K h (j + 1) = homesL K h j ++ (homeG K h j).data.toList := by
  unfold homesL
  rw [List.range_succ, List.flatMap_append]
  simp
theorem homesL_len {K : KD} {h : List ByteArray} (hh : ∀ t, (homeG K h t).size ≤ 100000) : ∀ j, (homesL K h j).length ≤ j * 100000
  | 0 => by simp [homesL]
  | j + 1 => by
    have := homesL_len hh j
    have h2 := hh j
    rw [homesL_snoc, List.length_append]
    have : (homeG K h j).data.toList.length = (homeG K h j).size := Array.length_toList
    omega
theorem hu8_info : (Tryz.prog.info? 5).map (fun i => (i.zero, i.size, i.bytes)) = some (some (.int .u8 0), 1, 1) := by kernel_rfl
theorem own_apart {w : World} {B B' : Nat} {u v : Value} {n m : Nat} {xs ys : List Value} (h : w.ownsRow B 3 1 u n xs) (k : w.ownsRow B' 5 1 v m ys) : u.ownBlock = none ∨ u.ownBlock ≠ v.ownBlock := by
  obtain ⟨_, ⟨rfl, _⟩ | ⟨g, cap, cur, rfl, _, hc, _⟩⟩ := h
  · exact .inl rfl
  · obtain ⟨_, ⟨rfl, _⟩ | ⟨g', cap', cur', rfl, _, hc', _⟩⟩ := k
    · exact .inr (by simp [Value.ownBlock])
    · refine .inr (fun e => ?_)
      simp [Value.ownBlock] at e
      subst e
      rw [hc] at hc'
      injection hc' with hc'
      injection hc' with _ hc'
      exact absurd hc' (by decide)
theorem own_base {w : World} {B B' : Nat} {e : TypeId} {v : Value} {n : Nat} {xs : List Value} (h : w.ownsRow B e 1 v n xs) (hB : B' ≤ B) : w.ownsRow B' e 1 v n xs := by
  obtain ⟨hl, h1 | ⟨g, cap, cur, h1, h2, h3⟩⟩ := h
  · exact ⟨hl, .inl h1⟩
  · exact ⟨hl, .inr ⟨g, cap, cur, h1, Nat.le_trans hB h2, h3⟩⟩
theorem u8_back (z : Int) : ((((z % 256).toNat.toUInt8).toNat : Nat) : Int) = z % 256 := by
  have h0 : 0 ≤ z % 256 := Int.emod_nonneg _ (by decide)
  have h1 : z % 256 < 256 := Int.emod_lt_of_pos _ (by decide)
  rw [show ((z % 256).toNat.toUInt8).toNat = (z % 256).toNat % 256 from rfl]
  omega
theorem byteCells_snoc (Y : List UInt8) (z : Int) : Lib.byteCells (Y ++ [(z % 256).toNat.toUInt8]) = Lib.byteCells Y ++ [.int .u8 (z % 256)] := by
  unfold Lib.byteCells
  rw [List.map_append]
  simp only [List.map_cons, List.map_nil]
  rw [u8_back]
theorem bytesOf_snoc {l : List Int} {j : Nat} {z : Int} (h : l[j]? = some z) : bytesOf (l.take (j + 1)) = bytesOf (l.take j) ++ [(z % 256).toNat.toUInt8] := by
  unfold bytesOf
  rw [List.take_add_one, h, List.map_append]
  rfl
section
variable {w0 w w' : World} {g gd m N : Nat} {K : KD} {h : List ByteArray} {c : Nat} {Ms : List MK}
theorem dmk_room (s : DMk w0 w g gd m N K Ms) (r : Run11 N K h c) : Calls Tryz.prog 23 #[.pointer (some ⟨g, 0, none⟩)] w fun e w' => e = .returned (.pointer (some ⟨w.heap.size, 0, none⟩)) ∧ RoomAt w' w.heap.size (N - 111) K.H ∧ Below w.heap.size w w' := by
  obtain ⟨P, h1, h2, h3, h4⟩ := s
  rw [← r.ok.len]
  exact kroom_any h1
set_option maxRecDepth 100000 in
set_option maxHeartbeats 4000000 in
theorem kseen_any (s : DMk w0 w g gd m N K Ms) (r : Run11 N K h c) (hN : N = 180) (hm : m < 1000000) (hh : ∀ t, (homeG K h t).size ≤ 100000) :
    Calls Tryz.prog 54 #[.pointer (some ⟨g, 0, none⟩)] w fun e w' => e = .returned (.string ⟨(seenL K h).toArray⟩) ∧ Below w.heap.size w w' := by
  obtain ⟨i0, hi, hz0, hz1, hz2⟩ := info_parts hu8_info
  have HS := Lib.hid s
  have HR := Lib.hid r
  have HH := Lib.hid hh
  have HM := Lib.hid hm
  have HN := Lib.hid hN
  have HI : Hid (i0.zero = some (.int .u8 0) ∧ i0.size = 1 ∧ i0.bytes = 1) := Lib.hid ⟨hz0, hz1, hz2⟩
  clear s r hh hm hN hz0 hz1 hz2
  go_enter Tryz.func54, Tryz.ntmps54
  go_wp2_with fail
  go_loopw [3, 4] (fun v i wr => ∃ j : Nat, j ≤ 69 ∧ i = .int .i64 j ∧ wr.ownsRow w.heap.size 5 1 v (homesL K h j).length (Lib.byteCells (homesL K h j)) ∧ Below w.heap.size w wr) (fun _ i _ => 69 - (intOf i).toNat)
  case atStart => exact ⟨0, Nat.zero_le _, rfl, by simpa [homesL, Lib.byteCells] using World.ownsRow_nil _ _ _ _, Below.refl _ _⟩
  case round =>
    obtain ⟨j, hj, rfl, ho, hb⟩ := hrel
    have HO := Lib.hid ho
    have HB := Lib.hid hb
    clear ho hb
    by_cases hlt : j < 69
    · have hjI : (j : Int) < 69 := by omega
      have HLT := Lib.hid hlt
      have HG := Lib.hid (dst_get (HS.out.below HB.out).st HR.out (t := j) (by rw [HN.out]; omega))
      obtain ⟨X, hX⟩ : ∃ X, X = homeG K h j := ⟨_, rfl⟩
      have HXS : Hid (X.size ≤ 100000) := Lib.hid (by rw [hX]; exact HH.out j)
      have HSN : Hid (homesL K h (j + 1) = homesL K h j ++ X.data.toList) := Lib.hid (by rw [hX]; exact homesL_snoc K h j)
      have HLN : Hid ((homesL K h j).length + X.size ≤ 100000000) := Lib.hid (by have := homesL_len HH.out j; have := HXS.out; omega)
      rw [← hX] at HG
      clear hX hlt
      go_wp2_with (first | (go_at_call 27; refine HG.out.mono ?_; rintro e w2 ⟨rfl, hb2⟩; have HB2 := Lib.hid hb2; clear hb2 HG; have HO2 := Lib.hid (row_below HO.out HB2.out)) | (at_builtin; refine Lib.wpList_append_own_string _ rfl _ _ 57 9 rfl w.heap.size 5 i0 Tryz.underlying57 Tryz.underlying9 hi HI.out.1 HI.out.2.1 HI.out.2.2 _ _ _ rfl HO2.out X rfl (by have := HLN.out; unfold maxLen; omega) (by have := HLN.out; omega) (Nat.le_trans HB.out.size HB2.out.size) ?_; intro v1 w3 hown1 hg1 _; have HO3 := Lib.hid hown1; have HG3 := Lib.hid hg1; clear hown1 hg1))
      refine ⟨⟨j + 1, HLT.out, by go_num, ?_, (HB.out.trans (HB2.out.mono HB.out.size)).grown HG3.out (Nat.le_trans HB.out.size HB2.out.size) (fun k hk => (World.ownsRow.lt HO2.out k hk).1)⟩, by have := HLT.out; simp [intOf]; omega⟩
      rw [HSN.out, List.length_append, show X.data.toList.length = X.size from Array.length_toList]
      simpa [Lib.byteCells, Lib.strCells] using HO3.out
    · obtain rfl : j = 69 := by omega
      have HD := Lib.hid (dst_dirty (HS.out.below HB.out).st HR.out HM.out)
      have HPL : Hid ((pendT K).length ≤ 400) := Lib.hid (by have := pendT_le K; have := HR.out.ok.len; have := HR.out.ok.dim; omega)
      obtain ⟨p, hp⟩ : ∃ p, p = (pendT K).length := ⟨_, rfl⟩
      rw [← hp] at HD HPL
      have HP := Lib.hid hp
      have hpI : (p : Int) ≤ 400 := by have := HPL.out; omega
      clear hp hlt
      go_wp2_with (go_at_call 12; refine HD.out.mono ?_; rintro e w2 ⟨A, cA, rfl, hrow, hb2⟩; have HB2 := Lib.hid (HB.out.trans (hb2.mono HB.out.size)); have HO2 := Lib.hid (row_below HO.out hb2); have HRW := Lib.hid hrow; have HSW := Lib.hid hb2.size; clear hrow hb2 HD HO)
      go_loopw [3, 8] (fun v i wr => ∃ j : Nat, j ≤ p ∧ i = .int .i64 j ∧ wr.ownsRow w.heap.size 5 1 v (homesL K h 69 ++ bytesOf ((pendT K).take j)).length (Lib.byteCells (homesL K h 69 ++ bytesOf ((pendT K).take j))) ∧ Below w.heap.size w wr ∧ wr.ownsRow w.heap.size 3 1 (.slice A p cA) p ((pendT K).map (Value.int .i64))) (fun _ i _ => p - (intOf i).toNat)
      case atStart => exact ⟨0, Nat.zero_le _, rfl, by simpa [bytesOf] using HO2.out, HB2.out, own_base HRW.out HB.out.size⟩
      case round =>
        obtain ⟨j, hj, rfl, ho, hb, hr⟩ := hrel
        by_cases hlt : j < p
        · have hjI : (j : Int) < (p : Int) := by omega
          obtain ⟨z, hz⟩ : ∃ z, (pendT K)[j]? = some z := ⟨_, List.getElem?_eq_getElem (by rw [← HP.out]; exact hlt)⟩
          obtain ⟨A', c', e, hpl, hI⟩ := own_ints hr
          injection e with e1 e2 e3
          subst e1
          obtain ⟨b, off, rfl, hbB, hc⟩ := hI (by omega)
          have hcz := hc j z hz
          have HSN := Lib.hid (bytesOf_snoc hz)
          have HO3 := Lib.hid ho
          have HB3 := Lib.hid hb
          have HR3 := Lib.hid hr
          have HLT := Lib.hid hlt
          have HLN : Hid ((homesL K h 69 ++ bytesOf ((pendT K).take j)).length ≤ 100000000) := Lib.hid (by have := homesL_len HH.out 69; rw [List.length_append]; simp [bytesOf]; omega)
          obtain ⟨Y, hY⟩ : ∃ Y, Y = homesL K h 69 ++ bytesOf ((pendT K).take j) := ⟨_, rfl⟩
          rw [← hY] at HO3 HLN
          have HY := Lib.hid hY
          clear hz hpl hI hc ho hb hr hY hlt e2 e3 hbB
          have HO4 := Lib.hid (HO3.out.alloc (.cells #[.int .u8 (z % 256)] 5))
          have HC4 : Hid (∀ (i : Nat) (u : Value), [Value.int .u8 (z % 256)][i]? = some u → (wr.alloc (.cells #[.int .u8 (z % 256)] 5)).cell? ((⟨wr.heap.size, 0, none⟩ : Addr).add i) = some u) := Lib.hid (by
            intro i u hu
            match i, hu with
            | 0, hu =>
              simp at hu
              subst hu
              rw [Go.WideShapes.add_plain]
              simp)
          have HSZ : Hid (w.heap.size ≤ (wr.alloc (.cells #[.int .u8 (z % 256)] 5)).heap.size) := Lib.hid (by have := HB3.out.size; simp; omega)
          go_wp2_with (at_builtin; refine wpList_append_own _ rfl _ _ 57 rfl w.heap.size 5 i0 (.int .u8 0) 1 1 Tryz.underlying57 hi HI.out.1 HI.out.2.1 HI.out.2.2 rfl (by omega) _ _ _ rfl HO4.out ⟨wr.heap.size, 0, none⟩ 1 1 [.int .u8 (z % 256)] rfl rfl HC4.out (fun u hu => by simp at hu; subst hu; rfl) (by have := HLN.out; unfold maxLen; omega) (by have := HLN.out; omega) HSZ.out ?_; intro v1 w3 hown1 hg1 _; have HO5 := Lib.hid hown1; have HG5 := Lib.hid hg1; clear hown1 hg1)
          refine ⟨⟨j + 1, HLT.out, by go_num, ?_, (HB3.out.alloc HB3.out.size _).grown HG5.out HSZ.out (fun k hk => (World.ownsRow.lt HO4.out k hk).1), (HR3.out.alloc _).kept HG5.out (own_apart (HR3.out.alloc _) HO4.out)⟩, by have := HLT.out; simp [intOf]; omega⟩
          rw [HSN.out, ← List.append_assoc, ← HY.out, List.length_append, byteCells_snoc]
          exact HO5.out
        · obtain rfl : j = p := by omega
          have ht : (pendT K).take j = pendT K := List.take_of_length_le (by rw [HP.out]; exact Nat.le_refl _)
          rw [ht] at ho
          obtain ⟨Y, hY⟩ : ∃ Y, Y = homesL K h 69 ++ bytesOf (pendT K) := ⟨_, rfl⟩
          rw [← hY] at ho
          have HPT : Hid ((pendT K).length ≤ 400) := Lib.hid (by rw [← HP.out]; exact HPL.out)
          have HPH : Hid (K.H.length ≤ 400) := Lib.hid (by have := HR.out.hok.few; have := HR.out.ok.dim; omega)
          have HYL : Hid (Y.length ≤ 100000000) := Lib.hid (by have := homesL_len HH.out 69; have := HPT.out; rw [hY, List.length_append]; simp only [bytesOf, List.length_map]; omega)
          have HYE := Lib.hid hY
          have HO3 := Lib.hid ho
          have HB3 := Lib.hid hb
          clear ht hY ho hb hr hlt
          have HO4 := Lib.hid (HO3.out.alloc (.cells #[.int .u8 255] 5))
          have HC4 : Hid (∀ (i : Nat) (u : Value), [Value.int .u8 255][i]? = some u → (wr.alloc (.cells #[.int .u8 255] 5)).cell? ((⟨wr.heap.size, 0, none⟩ : Addr).add i) = some u) := Lib.hid (by
            intro i u hu
            match i, hu with
            | 0, hu =>
              simp at hu
              subst hu
              rw [Go.WideShapes.add_plain]
              simp)
          have HSZ : Hid (w.heap.size ≤ (wr.alloc (.cells #[.int .u8 255] 5)).heap.size) := Lib.hid (by have := HB3.out.size; simp; omega)
          go_wp2_with (at_builtin; refine wpList_append_own _ rfl _ _ 57 rfl w.heap.size 5 i0 (.int .u8 0) 1 1 Tryz.underlying57 hi HI.out.1 HI.out.2.1 HI.out.2.2 rfl (by omega) _ _ _ rfl HO4.out ⟨wr.heap.size, 0, none⟩ 1 1 [.int .u8 255] rfl rfl HC4.out (fun u hu => by simp at hu; subst hu; rfl) (by have := HYL.out; unfold maxLen; omega) (by have := HYL.out; omega) HSZ.out ?_; intro v1 w3 hown1 hg1 _; have HO5 := Lib.hid hown1; have HB5 : Hid (Below w.heap.size w w3) := Lib.hid ((HB3.out.alloc HB3.out.size _).grown hg1 HSZ.out (fun k hk => (World.ownsRow.lt HO4.out k hk).1)); clear hown1 hg1)
          have HO6x := HO5
          refine (dmk_room (HS.out.below HB5.out) HR.out).mono ?_
          rintro e w4 ⟨rfl, hr4, hb4⟩
          have HR4 := Lib.hid hr4
          have HB6 : Hid (Below w.heap.size w w4) := Lib.hid (HB5.out.trans (hb4.mono HB5.out.size))
          have HO6 := Lib.hid (row_below HO5.out hb4)
          obtain ⟨p3, hp3⟩ : ∃ p3, p3 = K.H.length := ⟨_, rfl⟩
          have HAL := Lib.hid (rall_any hr4)
          rw [← hp3] at HAL
          have hp3I : (p3 : Int) ≤ 400 := by have := HPH.out; omega
          have HP3 := Lib.hid hp3
          clear hr4 hb4 hp3 HO5 HO6x
          go_wp2_with (go_at_call 24; refine HAL.out.mono ?_; rintro e w5 ⟨A3, c3, rfl, hrow, hb5⟩; have HB7 : Hid (Below w.heap.size w w5) := Lib.hid (HB6.out.trans (hb5.mono HB6.out.size)); have HO7 := Lib.hid (row_below HO6.out hb5); have HRW3 := Lib.hid (own_base hrow HB6.out.size); clear hrow hb5 HAL HO6)
          go_loopw [3, 10] (fun v i wr => ∃ j : Nat, j ≤ p3 ∧ i = .int .i64 j ∧ wr.ownsRow w.heap.size 5 1 v (homesL K h 69 ++ bytesOf (pendT K) ++ [255] ++ bytesOf (K.H.take j)).length (Lib.byteCells (homesL K h 69 ++ bytesOf (pendT K) ++ [255] ++ bytesOf (K.H.take j))) ∧ Below w.heap.size w wr ∧ wr.ownsRow w.heap.size 3 1 (.slice A3 p3 c3) p3 (K.H.map (Value.int .i64))) (fun _ i _ => p3 - (intOf i).toNat)
          case atStart =>
            refine ⟨0, Nat.zero_le _, rfl, ?_, HB7.out, HRW3.out⟩
            rw [← HYE.out]
            simpa [bytesOf, Lib.byteCells] using HO7.out
          case round =>
            obtain ⟨j3, hj, rfl, ho, hb, hr⟩ := hrel
            by_cases hlt : j3 < p3
            · have hjI : (j3 : Int) < (p3 : Int) := by omega
              obtain ⟨z, hz⟩ : ∃ z, (K.H)[j3]? = some z := ⟨_, List.getElem?_eq_getElem (by rw [← HP3.out]; exact hlt)⟩
              obtain ⟨A', c', e, hpl, hI⟩ := own_ints hr
              injection e with e1 e2 e3
              subst e1
              obtain ⟨b, off, rfl, hbB, hc⟩ := hI (by omega)
              have hcz := hc j3 z hz
              have HSN := Lib.hid (bytesOf_snoc hz)
              have HO3 := Lib.hid ho
              have HB3 := Lib.hid hb
              have HR3 := Lib.hid hr
              have HLT := Lib.hid hlt
              have HLN : Hid ((homesL K h 69 ++ bytesOf (pendT K) ++ [255] ++ bytesOf ((K.H).take j3)).length ≤ 100000000) := Lib.hid (by have := homesL_len HH.out 69; have := HPL.out; have := HPT.out; have := HPH.out; simp only [List.length_append, bytesOf, List.length_map, List.length_take, List.length_cons, List.length_nil]; omega)
              obtain ⟨Y, hY⟩ : ∃ Y, Y = homesL K h 69 ++ bytesOf (pendT K) ++ [255] ++ bytesOf ((K.H).take j3) := ⟨_, rfl⟩
              rw [← hY] at HO3 HLN
              have HY := Lib.hid hY
              clear hz hpl hI hc ho hb hr hY hlt e2 e3 hbB
              have HO4 := Lib.hid (HO3.out.alloc (.cells #[.int .u8 (z % 256)] 5))
              have HC4 : Hid (∀ (i : Nat) (u : Value), [Value.int .u8 (z % 256)][i]? = some u → (wr.alloc (.cells #[.int .u8 (z % 256)] 5)).cell? ((⟨wr.heap.size, 0, none⟩ : Addr).add i) = some u) := Lib.hid (by
                intro i u hu
                match i, hu with
                | 0, hu =>
                  simp at hu
                  subst hu
                  rw [Go.WideShapes.add_plain]
                  simp)
              have HSZ : Hid (w.heap.size ≤ (wr.alloc (.cells #[.int .u8 (z % 256)] 5)).heap.size) := Lib.hid (by have := HB3.out.size; simp; omega)
              go_wp2_with (at_builtin; refine wpList_append_own _ rfl _ _ 57 rfl w.heap.size 5 i0 (.int .u8 0) 1 1 Tryz.underlying57 hi HI.out.1 HI.out.2.1 HI.out.2.2 rfl (by omega) _ _ _ rfl HO4.out ⟨wr.heap.size, 0, none⟩ 1 1 [.int .u8 (z % 256)] rfl rfl HC4.out (fun u hu => by simp at hu; subst hu; rfl) (by have := HLN.out; unfold maxLen; omega) (by have := HLN.out; omega) HSZ.out ?_; intro v1 w3 hown1 hg1 _; have HO5 := Lib.hid hown1; have HG5 := Lib.hid hg1; clear hown1 hg1)
              refine ⟨⟨j3 + 1, HLT.out, by go_num, ?_, (HB3.out.alloc HB3.out.size _).grown HG5.out HSZ.out (fun k hk => (World.ownsRow.lt HO4.out k hk).1), (HR3.out.alloc _).kept HG5.out (own_apart (HR3.out.alloc _) HO4.out)⟩, by have := HLT.out; simp [intOf]; omega⟩
              rw [HSN.out, ← List.append_assoc, ← HY.out, List.length_append, byteCells_snoc]
              exact HO5.out
            · obtain rfl : j3 = p3 := by omega
              have ht : K.H.take j3 = K.H := List.take_of_length_le (by rw [HP3.out]; exact Nat.le_refl _)
              rw [ht] at ho
              have HB9 := Lib.hid hb
              obtain ⟨L, hL⟩ : ∃ L, L = seenL K h := ⟨_, rfl⟩
              rw [show homesL K h 69 ++ bytesOf (pendT K) ++ [255] ++ bytesOf K.H = L by rw [hL]; rfl] at ho
              have hLp : 0 < L.length := by rw [hL]; unfold seenL; simp only [List.length_append, List.length_cons, List.length_nil]; omega
              have HL := Lib.hid hL
              obtain ⟨g9, cap9, hv⟩ : ∃ g9 cap9, _ = Value.slice (some ⟨g9, 0, none⟩) L.length cap9 := by
                obtain ⟨_, ⟨_, hv2⟩ | ⟨g9, cap9, cur9, hv, -⟩⟩ := ho
                · omega
                · exact ⟨g9, cap9, hv⟩
              subst hv
              have hcv := run_convert_bytes_back (P := Tryz.prog) wr 57 9 5 ⟨g9, 0, none⟩ cap9 L Tryz.underlying57 Tryz.underlying5 Tryz.underlying9
                (fun i hi => ho.cells (g := g9) rfl i _ (by simp [Lib.byteCells, List.getElem?_eq_getElem hi]))
              clear hL hLp ht ho hb hr hlt
              go_wp2_with fail
              go_ret
              exact ⟨by rw [HL.out]; rfl, HB9.out⟩
end
end Go.Proofs.YtolbnkpakjdnnaaGreatDoor
